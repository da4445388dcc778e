import PyProof.Rows.All
import Wide.All
import OpenK.AllK
import Wide.FinOn
import Lean
import PyProof.EqAt
import PyProof.EqKinds
import PyProof.TupleCall
import PySem.Challenge.RW_knotwise_k01_a_row_seated
set_option Elab.async false
set_option linter.all false
set_option maxRecDepth 100000
set_option maxHeartbeats 4000000
set_option Elab.async false
set_option linter.all false
set_option maxRecDepth 100000
/-! THE HAND LAYER, for ints, bools, texts, own classes, LISTS and tuples (index, slices, in, append, pop ..), calls, loops. Paste it whole ahead of your own text; what your proof does not reach may be deleted. -/
namespace L2
open PySem PySem.Spec PyProof.Rows

/-- a key: an int or a str -/
abbrev Key := Sum Int Str
def keyIs : Key → Value → Bool
  | .inl k, v => Value.isInt k v
  | .inr x, v => Value.isStrOf x v
def keyH (w : World) : Key → Int
  | .inl k => hashInt k
  | .inr x => hashStr w x
theorem keyIs_shape : ∀ {k : Key} {v : Value}, keyIs k v = true → (∃ i t, k = Sum.inl i ∧ v = Value.int i t) ∨ (∃ x t, k = Sum.inr x ∧ v = Value.str x t)
  | .inl i, v, h => by
    obtain ⟨t, e⟩ := Value.isInt_shape (k := i) (v := v) h
    exact .inl ⟨i, t, rfl, e⟩
  | .inr x, v, h => by
    obtain ⟨t, e⟩ := Value.isStrOf_shape (x := x) (v := v) h
    exact .inr ⟨x, t, rfl, e⟩
theorem keyIs_int (i : Int) (t : Tok) : keyIs (.inl i) (.int i t) = true := by simp [keyIs, Value.isInt]
theorem keyIs_str (x : Str) (t : Tok) : keyIs (.inr x) (.str x t) = true := by simp [keyIs, Value.isStrOf]
theorem key_ll (a b : Int) : decide ((Sum.inl a : Key) = Sum.inl b) = (a == b) := by
  by_cases e : a = b
  · subst e; simp
  · have h : ¬ (Sum.inl a : Key) = Sum.inl b := fun q => e (Sum.inl.inj q)
    rw [decide_eq_false h]
    exact (beq_eq_false_iff_ne.mpr e).symm
theorem key_rr (a b : Str) : decide ((Sum.inr a : Key) = Sum.inr b) = decide (a = b) := by
  by_cases e : a = b
  · subst e; simp
  · have h : ¬ (Sum.inr a : Key) = Sum.inr b := fun q => e (Sum.inr.inj q)
    rw [decide_eq_false h, decide_eq_false e]
theorem key_lr (a : Int) (b : Str) : decide ((Sum.inl a : Key) = Sum.inr b) = false := decide_eq_false (fun q => nomatch q)
theorem key_rl (a : Str) (b : Int) : decide ((Sum.inr a : Key) = Sum.inl b) = false := decide_eq_false (fun q => nomatch q)

def mixKind (prog : Program) (w : World) : PySem.KeyKind prog w Key where
  is := keyIs
  hash := keyH w
  inj := fun v a b ha hb => by
    rcases keyIs_shape ha with ⟨i, t, rfl, rfl⟩ | ⟨x, t, rfl, rfl⟩
    · rcases keyIs_shape hb with ⟨j, u, rfl, e⟩ | ⟨y, u, rfl, e⟩
      · injection e with e1 _; rw [e1]
      · exact nomatch e
    · rcases keyIs_shape hb with ⟨j, u, rfl, e⟩ | ⟨y, u, rfl, e⟩
      · exact nomatch e
      · injection e with e1 _; rw [e1]
  byValue := fun k v h => by
    rcases keyIs_shape h with ⟨i, t, rfl, rfl⟩ | ⟨x, t, rfl, rfl⟩ <;> rfl
  pyHash := fun hv h => by
    rcases keyIs_shape hv with ⟨i, t, rfl, rfl⟩ | ⟨x, t, rfl, rfl⟩
    · exact wpAny_pyHash_int h
    · exact wpAny_pyHash_str h
  eqBool := fun hu hv h => by
    rcases keyIs_shape hu with ⟨i, t, rfl, rfl⟩ | ⟨x, t, rfl, rfl⟩
    · rcases keyIs_shape hv with ⟨j, u, rfl, rfl⟩ | ⟨y, u, rfl, rfl⟩
      · rw [key_ll] at h; exact wpAny_eqBool_int h
      · rw [key_lr] at h; exact SeqAt.EqAt.int_str i t y u _ _ _ _ h
    · rcases keyIs_shape hv with ⟨j, u, rfl, rfl⟩ | ⟨y, u, rfl, rfl⟩
      · rw [key_rl] at h; exact SeqAt.EqAt.str_int x t j u _ _ _ _ h
      · rw [key_rr] at h; exact wpAny_eqBool_str h
  «strs» := fun k x t v h => by
    rcases keyIs_shape h with ⟨i, u, rfl, e⟩ | ⟨y, u, rfl, e⟩
    · exact nomatch e
    · injection e with e1 _
      subst e1
      cases v <;> rfl

theorem mixKind_is (prog : Program) (w : World) (k : Key) (v : Value) : (mixKind prog w).is k v = keyIs k v := rfl
theorem mixKind_int (prog : Program) (w : World) (i : Int) (t : Tok) : (mixKind prog w).is (.inl i) (.int i t) = true := keyIs_int i t
theorem mixKind_str (prog : Program) (w : World) (x : Str) (t : Tok) : (mixKind prog w).is (.inr x) (.str x t) = true := keyIs_str x t
end L2

namespace L2
open PySem PySem.Spec PyProof.Rows

/-- a value, without the heap -/
inductive V where
  | non | bl (b : Bool) | int (i : Int) | str (x : Str) | byt (b : Array UInt8) | flt (b : UInt64) | ref (a : Addr) | ty (n : String)
  deriving DecidableEq

def RelV : V → Value → Prop
  | .non, u => u = Value.none
  | .bl b, u => u = Value.bool b
  | .int i, u => ∃ t, u = Value.int i t
  | .str x, u => ∃ t, u = Value.str x t
  | .byt b, u => ∃ t, u = Value.bytes b t
  | .flt b, u => ∃ t, u = Value.float b t
  | .ref a, u => u = Value.ref a
  | .ty n, u => u = Value.type n

abbrev Vals : List V → List Value → Prop := Paired RelV
theorem Vals.length {xs : List V} {us : List Value} (r : Vals xs us) : xs.length = us.length := Paired.length r
theorem Vals.get : ∀ {xs : List V} {us : List Value} {i : Nat} {x : V}, Vals xs us → xs[i]? = some x → ∃ u, us[i]? = some u ∧ RelV x u
  | _, _, _, _, .nil, e => by simp at e
  | _, _, 0, _, .cons r _, e => by simp at e; subst e; exact ⟨_, rfl, r⟩
  | _, _, i + 1, x, .cons _ t, e => by
    obtain ⟨u, h1, h2⟩ := Vals.get (i := i) (x := x) t (by simpa using e)
    exact ⟨u, by simpa using h1, h2⟩
theorem Vals.set {x : V} {u : Value} (r : RelV x u) : ∀ {xs : List V} {us : List Value} (i : Nat), Vals xs us → Vals (xs.set i x) (us.set i u)
  | _, _, _, .nil => .nil
  | _, _, 0, .cons _ t => .cons r t
  | _, _, i + 1, .cons q t => .cons q (Vals.set r i t)
theorem Vals.append : ∀ {xs ys : List V} {us ws : List Value}, Vals xs us → Vals ys ws → Vals (xs ++ ys) (us ++ ws)
  | _, _, _, _, .nil, s => s
  | _, _, _, _, .cons r t, s => .cons r (Vals.append t s)
theorem Vals.take : ∀ {xs : List V} {us : List Value} (n : Nat), Vals xs us → Vals (xs.take n) (us.take n)
  | _, _, 0, _ => .nil
  | _, _, _ + 1, .nil => .nil
  | _, _, n + 1, .cons r t => .cons r (Vals.take n t)
theorem Vals.drop : ∀ {xs : List V} {us : List Value} (n : Nat), Vals xs us → Vals (xs.drop n) (us.drop n)
  | _, _, 0, r => r
  | _, _, _ + 1, .nil => .nil
  | _, _, n + 1, .cons _ t => Vals.drop n t
theorem Vals.none_of : ∀ {xs : List V} {us : List Value} {i : Nat}, Vals xs us → xs[i]? = none → us[i]? = none := fun {xs us i} r e => by
  have h1 := r.length
  have h2 : xs.length ≤ i := List.getElem?_eq_none_iff.mp e
  exact List.getElem?_eq_none_iff.mpr (by omega)

def RelO : Option V → Option Value → Prop
  | some v, some u => RelV v u
  | none, none => True
  | _, _ => False
def KV {κ : Type} : List (κ × V) → List (κ × Value) → Prop := Paired fun (p : κ × V) (q : κ × Value) => p.1 = q.1 ∧ RelV p.2 q.2

/-- a key of a dict (00_mix): an int or a text -/
def kV : Key → V
  | .inl i => .int i
  | .inr x => .str x

/-- what stands at a tracked address -/
inductive HO where
  /-- a list -/
  | lst (xs : List V)
  /-- a tuple (never changes) -/
  | tup (xs : List V)
  /-- a dict whose keys are ints and texts; one whose keys are tuples of ints and texts (the empty one is both) -/
  | dK (kvs : List (Key × V)) | dT (kvs : List (List Key × V))
  /-- a set of ints: its members, its size -/
  | set (S : Int → Bool) (n : Nat)
  /-- an instance of the class at C, its dict at dx, its attributes -/
  | ins (C dx : Addr) (fs : List (Str × V))
  /-- the dict of the instance at x -/
  | own (x : Addr)
  /-- the dict of an exception -/
  | xd (fs : List (Str × V))
  /-- a bound method, f of x -/
  | met (f x : Addr)
  /-- a range object lo, lo + 1, .. below hi -/
  | rng (lo hi : Int)
  /-- a thing that is known to the object (the script; a dict while a loop walks it): read, never written while it is so -/
  | frz (o : Obj) (u : HO)
  /-- a code object's table -/
  | tbl (ps : Array Value)
  /-- any other thing, by what is true of its one object (a def of one's own: SetO a S n := HO.ext fun h => ..) -/
  | ext (φ : Heap → Prop)

abbrev Hp := Addr → Option HO
def upd (H : Hp) (a : Addr) (o : HO) : Hp := fun b => if b = a then some o else H b
theorem upd_same {H : Hp} {a : Addr} {o : HO} : upd H a o a = some o := by unfold upd; rw [if_pos rfl]
theorem upd_ne {H : Hp} {a b : Addr} {o : HO} (h : b ≠ a) : upd H a o b = H b := by unfold upd; rw [if_neg h]
theorem upd_upd {H : Hp} {a : Addr} {o u : HO} : upd (upd H a o) a u = upd H a u := by
  funext b; unfold upd; split <;> rfl
/-- two objects of different content stand apart -/
theorem ne_of {H : Hp} {a b : Addr} {o u : HO} (h : H a = some o) (h' : H b = some u) (d : o ≠ u) : a ≠ b := by
  intro e; subst e; rw [h] at h'; exact d (Option.some.inj h')
theorem ne_of_none {H : Hp} {a b : Addr} {o : HO} (h : H a = some o) (h' : H b = none) : a ≠ b := by
  intro e; subst e; rw [h] at h'; cases h'

section
variable (P : Program) (w : World)
def ObjOk (H : Hp) (h : Heap) (a : Addr) : HO → Prop
  | .lst xs => xs.length ≤ sizeLine ∧ ∃ (its : List Value) (n : Nat), Vals xs its ∧ h.get? a = some { cls := .type "list", data := .seq its.toArray n }
  | .tup xs => xs.length ≤ sizeLine ∧ ∃ its : List Value, Vals xs its ∧ IsTup h a its.toArray
  | .dK kvs => kvs.length ≤ sizeLine ∧ (a == sysModules) = false ∧ ∃ vs, KV kvs vs ∧ h.DictOf (mixKind P w) a vs
  | .dT kvs => kvs.length ≤ sizeLine ∧ (a == sysModules) = false ∧ ∃ xs : List (List Key × Addr × Value),
      Paired (fun (p : List Key × V) (q : List Key × Addr × Value) => p.1 = q.1 ∧ H q.2.1 = some (.tup (p.1.map kV)) ∧ RelV p.2 q.2.2) kvs xs ∧
      ∃ o es ep, h.get? a = some o ∧ o.ExactDict ∧ o.data = .dict es ep ∧ es.toList = xs.map (entryOfKey (tupleKind (mixKind P w))) ∧ (xs.map (·.1)).Nodup
  | .set S n => h.SetOf (intKind P w) a S n
  | .ins C dx fs => H dx = some (.own a) ∧ fs.length ≤ 1000 ∧ dx ≠ a ∧ h.get? a = some (PySem.W.instObj C dx) ∧
      ∃ mA, h.Ns1 dx mA ∧ (∀ f, RelO (fs.lookup f) (mA f)) ∧ PySem.Within mA (fs.map (·.1))
  | .own _ => ∃ o, h.get? a = some o
  | .xd fs => ∃ mA, h.Ns1 a mA ∧ ∀ f, RelO (fs.lookup f) (mA f)
  | .rng lo hi => ∃ t u v, h.get? a = some { cls := .type "range", data := .fields #[.int lo t, .int hi u, .int 1 v] }
  | .frz o u => h.get? a = some o ∧ ObjOk H h a u
  | .tbl ps => h.get? a = some { cls := .none, data := .fields ps }
  | .met f x => h.get? a = some (PySem.W.methodObj (.ref f) (.ref x))
  | .ext φ => φ h ∧ (∃ o, h.get? a = some o) ∧ ∀ h1 h2 : Heap, φ h1 → (∀ o, h1.get? a = some o → h2.get? a = some o) → φ h2
/-- the abstract heap is held -/
def HOk (H : Hp) (h : Heap) : Prop := ∀ a o, H a = some o → ObjOk P w H h a o
end

section
variable {P : Program} {w : World} {H H' : Hp} {h h' : Heap} {a : Addr} {o : HO}
theorem ObjOk.lt (x : ObjOk P w H h a o) : a < h.objs.size := by
  cases o with
  | lst xs => obtain ⟨_, _, _, _, e⟩ := x; exact Heap.lt_size e
  | tup xs => obtain ⟨_, _, _, p⟩ := x; exact p.lt
  | dK kvs => obtain ⟨_, _, _, _, o, _, _, e, _⟩ := x; exact Heap.lt_size e
  | dT kvs => obtain ⟨_, _, _, _, o, _, _, e, _⟩ := x; exact Heap.lt_size e
  | set S n => obtain ⟨o, _, _, _, e, _⟩ := x; exact Heap.lt_size e
  | ins C dx fs => obtain ⟨_, _, _, e, _⟩ := x; exact Heap.lt_size e
  | own y => obtain ⟨_, e⟩ := x; exact Heap.lt_size e
  | xd fs => obtain ⟨_, ⟨_, _, _, e, _⟩, _⟩ := x; exact Heap.lt_size e
  | rng lo hi => obtain ⟨_, _, _, e⟩ := x; exact Heap.lt_size e
  | frz ob u => obtain ⟨e, _⟩ := x; exact Heap.lt_size e
  | tbl ps => exact Heap.lt_size (show h.get? a = some _ from x)
  | met f y => exact Heap.lt_size (show h.get? a = some _ from x)
  | ext φ => obtain ⟨_, ⟨_, e⟩, _⟩ := x; exact Heap.lt_size e
theorem Paired.mapP {α β : Type} {F G : α → β → Prop} : ∀ {l₁ : List α} {l₂ : List β}, Paired F l₁ l₂ → (∀ a b, F a b → G a b) → Paired G l₁ l₂
  | _, _, .nil, _ => .nil
  | _, _, .cons r t, f => .cons (f _ _ r) (Paired.mapP t f)
theorem Paired.imp' {α β : Type} {F G : α → β → Prop} (f : ∀ a b, F a b → G a b) {l₁ : List α} {l₂ : List β} (r : Paired F l₁ l₂) : Paired G l₁ l₂ := Paired.mapP r f
/-- what an object's description leans on: its own object, its own dict, the tuples -/
theorem ObjOk.stay (x : ObjOk P w H h a o) (k : ∀ b u, (b = a ∨ H b = some (.own a)) → h.get? b = some u → h'.get? b = some u)
    (ho : ∀ b, H b = some (.own a) → H' b = some (.own a)) (ht : ∀ b xs, H b = some (.tup xs) → H' b = some (.tup xs)) : ObjOk P w H' h' a o := by
  induction o with
  | lst xs => obtain ⟨z, its, n, r, e⟩ := x; exact ⟨z, its, n, r, k _ _ (.inl rfl) e⟩
  | tup xs => obtain ⟨z, its, r, ob, e, c⟩ := x; exact ⟨z, its, r, ob, k _ _ (.inl rfl) e, c⟩
  | dK kvs => obtain ⟨z, y, vs, r, ob, es, ep, e, c⟩ := x; exact ⟨z, y, vs, r, ob, es, ep, k _ _ (.inl rfl) e, c⟩
  | dT kvs =>
    obtain ⟨z, y, xs, r, ob, es, ep, e, c⟩ := x
    exact ⟨z, y, xs, Paired.mapP r fun p q z => ⟨z.1, ht _ _ z.2.1, z.2.2⟩, ob, es, ep, k _ _ (.inl rfl) e, c⟩
  | set S n => obtain ⟨ob, es, ep, t, e, c⟩ := x; exact ⟨ob, es, ep, t, k _ _ (.inl rfl) e, c⟩
  | ins C dx fs =>
    obtain ⟨d, z, ne, e, mA, ⟨od, es, ep, e2, c⟩, r⟩ := x
    exact ⟨ho _ d, z, ne, k _ _ (.inl rfl) e, mA, ⟨od, es, ep, k _ _ (.inr d) e2, c⟩, r⟩
  | own y => obtain ⟨ob, e⟩ := x; exact ⟨ob, k _ _ (.inl rfl) e⟩
  | xd fs => obtain ⟨mA, ⟨od, es, ep, e, c⟩, r⟩ := x; exact ⟨mA, ⟨od, es, ep, k _ _ (.inl rfl) e, c⟩, r⟩
  | rng lo hi => obtain ⟨t, u, v, e⟩ := x; exact ⟨t, u, v, k _ _ (.inl rfl) e⟩
  | frz ob u ih => obtain ⟨e, q⟩ := x; exact ⟨k _ _ (.inl rfl) e, ih q⟩
  | tbl ps =>
    have e : h.get? a = some { cls := .none, data := .fields ps } := x
    show h'.get? a = some { cls := .none, data := .fields ps }
    exact k a _ (.inl rfl) e
  | met f y =>
    have e : h.get? a = some (PySem.W.methodObj (.ref f) (.ref y)) := x
    show h'.get? a = some (PySem.W.methodObj (.ref f) (.ref y))
    exact k a _ (.inl rfl) e
  | ext φ => obtain ⟨p, ⟨o, e⟩, st⟩ := x; exact ⟨st _ _ p fun o q => k _ _ (.inl rfl) q, ⟨o, k _ _ (.inl rfl) e⟩, st⟩
theorem HOk.lt (x : HOk P w H h) (e : H a = some o) : a < h.objs.size := (x a o e).lt
theorem HOk.fresh (x : HOk P w H h) (e : h.objs.size ≤ a) : H a = none := by
  cases q : H a with
  | none => rfl
  | some u => exact absurd (Nat.lt_of_lt_of_le (x.lt q) e) (Nat.lt_irrefl _)
/-- every object of the heap is kept -/
theorem HOk.kept (x : HOk P w H h) (k : ∀ b u, h.get? b = some u → h'.get? b = some u) : HOk P w H h' := fun a o e =>
  (x a o e).stay (fun b u _ q => k b u q) (fun _ q => q) fun _ _ q => q
/-- a new object is laid and tracked -/
theorem HOk.laid (x : HOk P w H h) (k : ∀ b u, h.get? b = some u → h'.get? b = some u) (hp : h.objs.size ≤ a) (new : ObjOk P w (upd H a o) h' a o) : HOk P w (upd H a o) h' := fun b u e => by
  have hn := x.fresh hp
  by_cases hb : b = a
  · subst hb; rw [upd_same] at e; cases e; exact new
  · rw [upd_ne hb] at e
    exact (x b u e).stay (fun c v _ q => k c v q) (fun c q => by rw [upd_ne (ne_of_none q hn)]; exact q) fun c xs q => by rw [upd_ne (ne_of_none q hn)]; exact q
end

/-- what may be read as u: it is u, or a known u -/
def Rd (H : Hp) (a : Addr) (u : HO) : Prop := H a = some u ∨ ∃ o, H a = some (.frz o u)
theorem Rd.of {H : Hp} {a : Addr} {u : HO} (h : H a = some u) : Rd H a u := .inl h
theorem Rd.ok {P : Program} {w : World} {H : Hp} {h : Heap} {a : Addr} {u : HO} (r : Rd H a u) (x : HOk P w H h) : ObjOk P w H h a u := by
  rcases r with r | ⟨o, r⟩
  · exact x a u r
  · obtain ⟨_, q⟩ := x a _ r
    exact q
/-- what may be written -/
def Mut : Option HO → Prop
  | some (.lst _) => True
  | some (.dK _) => True
  | some (.dT _) => True
  | some (.set _ _) => True
  | some (.ins _ _ _) => True
  | some (.ext _) => True
  | _ => False
section
variable {P : Program} {w : World} {H : Hp} {h h' : Heap} {x e : Addr} {o' : HO}
/-- the object at e is changed: x itself, or the dict of the instance x -/
theorem HOk.write (ok : HOk P w H h) (mu : Mut (H x)) (he : e = x ∨ H e = some (.own x)) (k : ∀ b u, b ≠ e → h.get? b = some u → h'.get? b = some u) (heo : ∃ u, h'.get? e = some u)
    (new : ObjOk P w (upd H x o') h' x o') : HOk P w (upd H x o') h' := fun b u q => by
  have nown : ∀ c y, H c = some (.own y) → c ≠ x := fun c y r z => by subst z; rw [r] at mu; exact mu
  have ntup : ∀ c xs, H c = some (.tup xs) → c ≠ x := fun c xs r z => by subst z; rw [r] at mu; exact mu
  by_cases hb : b = x
  · subst hb; rw [upd_same] at q; cases q; exact new
  · rw [upd_ne hb] at q
    by_cases hbe : b = e
    · have q' : H b = some (.own x) := by
        rcases he with z | z
        · exact absurd (hbe.trans z) hb
        · rw [hbe]; exact z
      rw [q] at q'; cases q'
      obtain ⟨v, hv⟩ := heo
      exact ⟨v, by rw [hbe]; exact hv⟩
    · refine (ok b u q).stay (fun c v hc r => k c v ?_ r) (fun c r => by rw [upd_ne (nown c b r)]; exact r) fun c xs r => by rw [upd_ne (ntup c xs r)]; exact r
      rcases hc with rfl | hc
      · exact hbe
      · rintro rfl
        rcases he with z | z
        · exact nown c b hc z
        · rw [hc] at z; cases z; exact hb rfl
end

/-! ### kept unless tracked; of the frames at fs (the callers') the slots may change (an exception that passes writes there); of the records at ex (iterators) nothing is said -/
structure Un (fs ex : List Addr) (H H' : Hp) (h h' : Heap) : Prop where
  keep : ∀ b o, h.get? b = some o → H b = none → b ∉ fs → b ∉ ex → h'.get? b = some o
  slot : ∀ b o, h.get? b = some o → H b = none → b ∈ fs → b ∉ ex → ∃ sl, h'.get? b = some { o with slots := sl }
  free : ∀ b o, h.get? b = some o → H b = none → b ∉ ex → H' b = none
  there : ∀ b o, h.get? b = some o → b ∉ ex → ∃ o', h'.get? b = some o'
  tups : ∀ b xs, H b = some (.tup xs) → H' b = some (.tup xs)
  frzs : ∀ b o u, H b = some (.frz o u) → H' b = some (.frz o u)
  tbls : ∀ b ps, H b = some (.tbl ps) → ∃ more, H' b = some (.tbl (ps ++ more))
section
variable {fs fs' ex ex' : List Addr} {H H1 H2 : Hp} {h h1 h2 h' : Heap} {a x e : Addr} {o : HO}
theorem Un.any (u : Un fs ex H H1 h h1) {b : Addr} {ob : Obj} (q : h.get? b = some ob) (n : H b = none) (hx : b ∉ ex) : ∃ sl, h1.get? b = some { ob with slots := sl } := by
  by_cases hb : b ∈ fs
  · exact u.slot b ob q n hb hx
  · exact ⟨ob.slots, u.keep b ob q n hb hx⟩
theorem Un.trans (a : Un fs ex H H1 h h1) (b : Un fs ex H1 H2 h1 h2) : Un fs ex H H2 h h2 where
  keep := fun c ob q n hc hx => b.keep c ob (a.keep c ob q n hc hx) (a.free c ob q n hx) hc hx
  slot := fun c ob q n hc hx => by
    obtain ⟨sl, e1⟩ := a.slot c ob q n hc hx
    obtain ⟨sl', e2⟩ := b.slot c _ e1 (a.free c ob q n hx) hc hx
    exact ⟨sl', e2⟩
  free := fun c ob q n hx => by
    obtain ⟨o', e1⟩ := a.there c ob q hx
    exact b.free c o' e1 (a.free c ob q n hx) hx
  there := fun c ob q hx => by
    obtain ⟨o', e1⟩ := a.there c ob q hx
    exact b.there c o' e1 hx
  tups := fun c xs q => b.tups c xs (a.tups c xs q)
  frzs := fun c ob xs q => b.frzs c ob xs (a.frzs c ob xs q)
  tbls := fun c ps q => by
    obtain ⟨m1, e1⟩ := a.tbls c ps q
    obtain ⟨m2, e2⟩ := b.tbls c _ e1
    exact ⟨m1 ++ m2, by rw [e2, Array.append_assoc]⟩
theorem Un.kept (k : ∀ b u, h.get? b = some u → h'.get? b = some u) : Un fs ex H H h h' :=
  ⟨fun b ob q _ _ _ => k b ob q, fun b ob q _ _ _ => ⟨ob.slots, k b ob q⟩, fun _ _ _ n _ => n, fun b ob q _ => ⟨ob, k b ob q⟩, fun _ _ q => q, fun _ _ _ q => q, fun _ ps q => ⟨#[], by rw [q]; simp⟩⟩
theorem Un.refl : Un fs ex H H h h := Un.kept fun _ _ q => q
theorem Un.laid (k : ∀ b u, h.get? b = some u → h'.get? b = some u) (hp : h.objs.size ≤ a) (hn : H a = none) : Un fs ex H (upd H a o) h h' where
  keep := fun b u q _ _ _ => k b u q
  slot := fun b u q _ _ _ => ⟨u.slots, k b u q⟩
  free := fun b u q n _ => by rw [upd_ne (Nat.ne_of_lt (Nat.lt_of_lt_of_le (Heap.lt_size q) hp))]; exact n
  there := fun b u q _ => ⟨u, k b u q⟩
  tups := fun b xs q => by rw [upd_ne (ne_of_none q hn)]; exact q
  frzs := fun b u xs q => by rw [upd_ne (ne_of_none q hn)]; exact q
  tbls := fun b ps q => ⟨#[], by rw [upd_ne (ne_of_none q hn), q]; simp⟩
theorem Un.write (mu : Mut (H x)) (he : e = x ∨ H e = some (.own x)) (k : ∀ b u, b ≠ e → h.get? b = some u → h'.get? b = some u) (heo : ∃ u, h'.get? e = some u) : Un fs ex H (upd H x o) h h' := by
  have hx : ∀ b, H b = none → b ≠ x := fun b n z => by subst z; rw [n] at mu; exact mu
  have hb : ∀ b, H b = none → b ≠ e := fun b n z => by
    subst z
    rcases he with r | r
    · exact hx b n r
    · rw [n] at r; cases r
  have hm : ∀ b u, H b = some u → ¬ Mut (some u) → b ≠ x := fun b u q nm z => by subst z; rw [q] at mu; exact nm mu
  refine ⟨fun b u q n _ _ => k b u (hb b n) q, fun b u q n _ _ => ⟨u.slots, k b u (hb b n) q⟩, fun b u q n _ => by rw [upd_ne (hx b n)]; exact n, fun b u q _ => ?_,
    fun b xs q => by rw [upd_ne (hm b _ q fun z => z)]; exact q, fun b u xs q => by rw [upd_ne (hm b _ q fun z => z)]; exact q, fun b ps q => ⟨#[], by rw [upd_ne (hm b _ q fun z => z), q]; simp⟩⟩
  by_cases hbe : b = e
  · subst hbe; exact heo
  · exact ⟨u, k b u hbe q⟩
theorem Un.mono (u : Un fs ex H H1 h h1) (hs : ∀ b ∈ fs, b ∈ fs') (hx : ∀ b ∈ ex, b ∈ ex') : Un fs' ex' H H1 h h1 :=
  ⟨fun b ob q n hb he => u.keep b ob q n (fun z => hb (hs b z)) fun z => he (hx b z), fun _ _ q n _ he => u.any q n fun z => he (hx _ z), fun b ob q n he => u.free b ob q n fun z => he (hx b z), fun b ob q he => u.there b ob q fun z => he (hx b z), u.tups, u.frzs, u.tbls⟩
end

/-! ### the heap without what is tracked -/
def trk (h : Heap) (H : Hp) : List Addr := (List.range h.objs.size).filter fun a => (H a).isSome
def hidT (h : Heap) (H : Hp) : Heap := PySem.W.hideAll h (trk h H)
theorem hidT_size (h : Heap) (H : Hp) : (hidT h H).objs.size = h.objs.size := PySem.W.hideAll_size _ _
theorem hidT_get {h : Heap} {H : Hp} {b : Addr} {o : Obj} (e : h.get? b = some o) (n : H b = none) : (hidT h H).get? b = some o :=
  PySem.W.hideAll_get _ e fun hm => by
    have q : (H b).isSome = true := (List.mem_filter.mp hm).2
    rw [n] at q; simp at q
theorem of_hidT {h : Heap} {H : Hp} {b : Addr} {o : Obj} (e : (hidT h H).get? b = some o) : h.get? b = some o ∧ H b = none := by
  have e' : h.get? b = some o := PySem.W.of_hideAll (trk h H) e
  refine ⟨e', ?_⟩
  cases q : H b with
  | none => rfl
  | some x =>
    have hm : b ∈ trk h H := List.mem_filter.mpr ⟨List.mem_range.mpr (Heap.lt_size e'), by simp [q]⟩
    have z : (hidT h H).get? b = none := PySem.W.hideAll_none (trk h H) hm
    rw [z] at e; cases e

/-! ### OpenK's ledger, filled with every new object but one -/
def allNews (g h : Heap) (L : Addr) : List (Addr × Obj) := (List.range h.objs.size).filterMap fun a => if a = L ∨ (g.get? a).isSome = true then none else (h.get? a).map fun o => (a, o)
theorem mem_allNews {g h : Heap} {L a : Addr} {o : Obj} (h1 : a ≠ L) (h2 : g.get? a = none) (h3 : h.get? a = some o) : (a, o) ∈ allNews g h L :=
  List.mem_filterMap.mpr ⟨a, List.mem_range.mpr (Heap.lt_size h3), by simp [h1, h2, h3]⟩
theorem of_mem_allNews {g h : Heap} {L : Addr} {p : Addr × Obj} (hp : p ∈ allNews g h L) : p.1 ≠ L ∧ g.get? p.1 = none ∧ h.get? p.1 = some p.2 := by
  obtain ⟨b, _, e⟩ := List.mem_filterMap.mp hp
  split at e
  · cases e
  · rename_i hn
    cases q : h.get? b with
    | none => rw [q] at e; simp at e
    | some u =>
      rw [q] at e
      simp only [Option.map_some, Option.some.injEq] at e
      subst e
      refine ⟨fun z => hn (.inl z), ?_, q⟩
      show g.get? b = none
      cases r : g.get? b with
      | none => rfl
      | some v => exact (hn (.inr (by simp [r]))).elim
def rest (g h : Heap) (L d : Addr) : List (Addr × Obj) := (allNews g h L).filter fun p => decide (p.1 ≠ d)
theorem rest_ne {g h : Heap} {L d : Addr} : ∀ p ∈ rest g h L d, p.1 ≠ d := fun p hp => of_decide_eq_true (List.mem_filter.mp hp).2
theorem mem_rest {g h : Heap} {L d a : Addr} {o : Obj} (h1 : a ≠ L) (h2 : g.get? a = none) (h3 : h.get? a = some o) (h4 : a ≠ d) : (a, o) ∈ rest g h L d :=
  List.mem_filter.mpr ⟨mem_allNews h1 h2 h3, decide_eq_true h4⟩
theorem news_all {g h : Heap} {L : Addr} : News g L h (allNews g h L) := fun p hp => let ⟨a, b, c⟩ := of_mem_allNews hp; ⟨c, a, b⟩
theorem news_at {g h : Heap} {L d : Addr} {o : Obj} (h1 : d ≠ L) (h2 : g.get? d = none) (h3 : h.get? d = some o) : News g L h ((d, o) :: rest g h L d) := fun p hp => by
  rcases List.mem_cons.mp hp with rfl | hp
  · exact ⟨h3, h1, h2⟩
  · exact news_all p (List.mem_filter.mp hp).1
/-- behind a rule that changed d alone: all else but the frame is kept -/
theorem kept_of_news {g h h' : Heap} {L d : Addr} {m : Str → Option Value} (k : ∀ b o, g.get? b = some o → h.get? b = some o) (F : Fr g L h' m) (N : News g L h' (rest g h L d)) :
    ∀ b o, b ≠ L → b ≠ d → h.get? b = some o → h'.get? b = some o := fun b o h1 h2 e => by
  cases q : g.get? b with
  | some u =>
    have := k b u q
    rw [e] at this; cases this
    exact F.keep b _ q
  | none => exact (N (b, o) (mem_rest h1 q e h2)).1
end L2

namespace L2
open PySem PySem.Spec PyProof.Rows

/-- the module's facts, over the base: the heap at the law's entry without what is tracked there -/
structure Mod (K : PySem.W.Frag) (mg : Str → Option Value) (base : Heap) : Prop where
  kin : K.In base
  glob : base.Ns mainGlobals mg
  blt : ∃ mb, base.Ns builtinsNs mb ∧ ∀ x : Str, x ≠ "__name__" → mb x = bootBuiltins x
  nolimit : base.NoLimit

/-- the context: a def's body (or a comprehension's block) running. base: fixed through the whole law; s₀, H₀: the entry; outer: the frames whose slots others may change (a def's callers); stack: all frames that run;
   ex: iterators that were made ahead of the entry and are walked here (a comprehension's); fn: the names whose cells were made at the entry (a def: all; a comprehension's block: its own); calm: not within an except suite; pn: pins that every state bears; xe: what is wanted of an exception that leaves the code -/
structure Cx where
  prog : Program
  w : World
  K : PySem.W.Frag
  mg : Str → Option Value
  base : Heap
  A : Around
  N : List Str
  s₀ : Shared
  H₀ : Hp
  env : Env
  outer : List Env
  stack : List Env
  ex : List Addr
  fn : Str → Bool
  calm : Bool
  pn : List (Addr × Obj)
  xe : Value → Shared → Prop
/-- the callers' frames -/
def frs (l : List Env) : List Addr := l.filterMap (·.frame)
abbrev Cx.fs (X : Cx) : List Addr := frs X.outer

def Vis (sc : Scope) (x : Str) : Prop := sc.names.lookup x = some .local ∨ sc.names.lookup x = some .cell ∨ sc.names.lookup x = some .free
def Loc (sc : Scope) (x : Str) : Prop := sc.names.lookup x = some .local ∨ sc.names.lookup x = some .cell
def Look (env : Env) (h : Heap) (m : Str → Option Value) (x : Str) (u : Value) : Prop :=
  (env.kindOf x = some .local ∧ m x = some u) ∨ ((env.kindOf x = some .cell ∨ env.kindOf x = some .free) ∧ ∃ c, env.cells.lookup x = some c ∧ h.IsCell c (some u))

structure Cx.Ok (X : Cx) : Prop where
  mod : Mod X.K X.mg X.base
  kind : X.env.scope.kind = .function
  glob : X.env.globals = mainGlobals
  blt : X.env.builtins = builtinsNs
  above : X.s₀.heap.objs.size ≤ X.env.locals
  inj : ∀ x y c, X.env.cells.lookup x = some c → X.env.cells.lookup y = some c → x = y
  has : ∀ x, (X.env.kindOf x = some .cell ∨ X.env.kindOf x = some .free) → ∃ c, X.env.cells.lookup x = some c
  cab : ∀ x c, X.fn x = true → X.env.cells.lookup x = some c → X.s₀.heap.objs.size ≤ c
  hd : X.calm = true → X.A.handled = none
  frames : X.A.frames = some X.stack
  stk : X.stack = X.outer ∨ (X.stack = X.env :: X.outer ∧ X.env.frame = some X.env.locals)
  exf : ∀ b ∈ X.ex, b ≠ X.env.locals ∧ ∀ x c, X.env.cells.lookup x = some c → c ≠ b
  bs : ∀ b o, X.base.get? b = some o → X.s₀.heap.get? b = some o ∧ X.H₀ b = none
  bsz : X.base.objs.size ≤ X.s₀.heap.objs.size
  noex : ∀ b o, X.base.get? b = some o → b ∉ X.ex
  exfs : ∀ b ∈ X.ex, b ∉ X.fs
  funs : X.s₀.heap.FunFrames X.base X.outer
  frf : ∀ b ∈ X.fs, X.H₀ b = none

structure Inv (X : Cx) (pins : List (Addr × Obj)) (σ : List (Option V)) (H : Hp) (s : Shared) : Prop where
  ok : X.Ok
  os : s.os = X.s₀.os
  bare : AllBare s.gens
  base : Un X.fs X.ex X.H₀ H X.s₀.heap s.heap
  loc : ∃ m, s.heap.Ns X.env.locals m ∧ ∀ (i : Nat) (x : Str) (v : V), X.N[i]? = some x → σ[i]? = some (some v) → Vis X.env.scope x → ∃ u, RelV v u ∧ Look X.env s.heap m x u
  cell : ∀ x c, X.env.cells.lookup x = some c → ∃ v, s.heap.IsCell c v
  free : H X.env.locals = none
  freeC : ∀ x c, X.env.cells.lookup x = some c → H c = none
  pin : ∀ p ∈ X.pn ++ pins, s.heap.get? p.1 = some p.2 ∧ H p.1 = none ∧ p.1 ≠ X.env.locals ∧ p.1 ∉ X.fs ∧ ∀ v, p.2.data ≠ .cell v
  hok : HOk X.prog X.w H s.heap
  len : σ.length = X.N.length

section
variable {X : Cx} {pins : List (Addr × Obj)} {σ : List (Option V)} {H H' : Hp} {s : Shared} {h' : Heap}

theorem Cx.Ok.nofr (ok : X.Ok) {b : Addr} {o : Obj} (e : X.base.get? b = some o) : b ∉ X.fs := fun hb => by
  have := (ok.funs.mem hb).1
  rw [e] at this; cases this
theorem Inv.bs (I : Inv X pins σ H s) : ∀ b o, X.base.get? b = some o → s.heap.get? b = some o ∧ H b = none := fun b o e =>
  ⟨I.base.keep b o (I.ok.bs b o e).1 (I.ok.bs b o e).2 (I.ok.nofr e) (I.ok.noex b o e), I.base.free b o (I.ok.bs b o e).1 (I.ok.bs b o e).2 (I.ok.noex b o e)⟩
theorem Inv.bk (I : Inv X pins σ H s) : ∀ b o, X.base.get? b = some o → s.heap.get? b = some o := fun b o e => (I.bs b o e).1
theorem Inv.mod (I : Inv X pins σ H s) : Mod X.K X.mg X.base := I.ok.mod
theorem Inv.kIn (I : Inv X pins σ H s) : X.K.In s.heap := I.ok.mod.kin.keeps I.bk
theorem Inv.nolimit (I : Inv X pins σ H s) : s.heap.NoLimit := I.ok.mod.nolimit.keeps I.bk
/-- the frame over the base: for OpenK's rules (K.In X.base is I.mod.kin) -/
theorem Inv.fr (I : Inv X pins σ H s) : ∃ m, Fr X.base X.env.locals s.heap m :=
  let ⟨m, hn, _⟩ := I.loc
  ⟨m, hn, I.bk, Nat.le_trans I.ok.bsz I.ok.above⟩
theorem Inv.lt (I : Inv X pins σ H s) : X.env.locals < s.heap.objs.size := let ⟨_, hn, _⟩ := I.loc; hn.lt
theorem Inv.sz (I : Inv X pins σ H s) : X.s₀.heap.objs.size ≤ s.heap.objs.size := Nat.le_trans I.ok.above (Nat.le_of_lt I.lt)
theorem Inv.nofs (I : Inv X pins σ H s) {a : Addr} (h : s.heap.objs.size ≤ a) : a ∉ X.fs := fun hb => by
  obtain ⟨_, o, ho, _⟩ := I.ok.funs.mem hb
  exact absurd (Nat.lt_of_lt_of_le (Heap.lt_size ho) (Nat.le_trans I.sz h)) (Nat.lt_irrefl _)
theorem Inv.cne (I : Inv X pins σ H s) : ∀ x c, X.env.cells.lookup x = some c → c ≠ X.env.locals := fun x c e z => by
  obtain ⟨v, o, ho, hd⟩ := I.cell x c e
  obtain ⟨m, ⟨o', es, ep, ho', hd', _⟩, _⟩ := I.loc
  rw [z, ho'] at ho; cases ho; rw [hd'] at hd; cases hd
theorem Inv.funs (I : Inv X pins σ H s) : s.heap.FunFrames X.base X.outer := by
  have all : ∀ (l : List Env), (∀ b ∈ frs l, b ∈ X.fs) → X.s₀.heap.FunFrames X.base l → s.heap.FunFrames X.base l := by
    intro l
    induction l with
    | nil => intro _ _; trivial
    | cons env r ih =>
      intro hs hl
      obtain ⟨hk, ⟨L, o, hf, hn, ho, hd⟩, hr⟩ := hl
      have hL : L ∈ X.fs := hs L (by unfold frs; rw [List.filterMap_cons, hf]; exact List.mem_cons_self)
      obtain ⟨sl, e⟩ := I.base.slot L o ho (I.ok.frf L hL) hL fun z => I.ok.exfs L z hL
      exact ⟨hk, ⟨L, _, hf, hn, e, hd⟩, ih (fun b hb => hs b (by unfold frs; rw [List.filterMap_cons, hf]; exact List.mem_cons_of_mem _ hb)) hr⟩
  exact all X.outer (fun _ hb => hb) I.ok.funs

/-- the frames that run, for a call -/
theorem Inv.stack (I : Inv X pins σ H s) : s.heap.FunFrames X.base X.stack := by
  rcases I.ok.stk with e | ⟨e, hf⟩
  · rw [e]; exact I.funs
  · rw [e]
    obtain ⟨m, hn, _⟩ := I.loc
    refine .cons (by rw [I.ok.kind]; decide) hf hn ?_ I.funs
    exact Heap.get?_none_of_le (Nat.le_trans I.ok.bsz I.ok.above)
theorem Inv.stkSub (I : Inv X pins σ H s) : ∀ b ∈ frs X.stack, b ∈ X.env.locals :: X.fs := fun b hb => by
  rcases I.ok.stk with e | ⟨e, hf⟩
  · rw [e] at hb; exact List.mem_cons_of_mem _ hb
  · rw [e] at hb
    unfold frs at hb
    rw [List.filterMap_cons, hf] at hb
    exact hb
theorem Inv.stkFree (I : Inv X pins σ H s) : ∀ b ∈ frs X.stack, H b = none := fun b hb => by
  rcases List.mem_cons.mp (I.stkSub b hb) with e | hb
  · rw [e]; exact I.free
  · obtain ⟨_, o, ho, _⟩ := I.ok.funs.mem hb
    exact I.base.free b o ho (I.ok.frf b hb) fun z => I.ok.exfs b z hb

/-- THE STEP: the untracked objects but the frame and the records at ch are kept (the callers' frames up to slots), the frame's map is kept, the new abstract heap is held -/
theorem Inv.step {g' : Array GenState} {t' : Nat} {d' : Drawn} {ch : List Addr} (I : Inv X pins σ H s)
    (hch : ∀ b ∈ ch, (b ∈ X.ex ∨ X.s₀.heap.objs.size ≤ b) ∧ b ≠ X.env.locals ∧ (∀ x c, X.env.cells.lookup x = some c → c ≠ b) ∧ ∀ p ∈ X.pn ++ pins, p.1 ≠ b)
    (keep : ∀ b o, b ≠ X.env.locals → b ∉ X.fs → b ∉ ch → s.heap.get? b = some o → H b = none → h'.get? b = some o)
    (slot : ∀ b o, b ≠ X.env.locals → b ∈ X.fs → b ∉ ch → s.heap.get? b = some o → H b = none → ∃ sl, h'.get? b = some { o with slots := sl }) (free : ∀ b o, b ∉ ch → s.heap.get? b = some o → H b = none → H' b = none)
    (there : ∀ b o, b ∉ ch → s.heap.get? b = some o → ∃ o', h'.get? b = some o')
    (tups : ∀ b xs, H b = some (.tup xs) → H' b = some (.tup xs)) (frzs : ∀ b o u, H b = some (.frz o u) → H' b = some (.frz o u)) (tbls : ∀ b ps, H b = some (.tbl ps) → ∃ more, H' b = some (.tbl (ps ++ more)))
    (ns : ∀ m, s.heap.Ns X.env.locals m → h'.Ns X.env.locals m) (hok : HOk X.prog X.w H' h') (hg : AllBare g') :
    Inv X pins σ H' { s with heap := h', gens := g', drawn := d', toks := t' } := by
  have neL : ∀ b o, X.s₀.heap.get? b = some o → b ≠ X.env.locals := fun b o e => Nat.ne_of_lt (Nat.lt_of_lt_of_le (Heap.lt_size e) I.ok.above)
  have neC : ∀ b o, X.s₀.heap.get? b = some o → b ∉ X.ex → b ∉ ch := fun b o e hx hb => by
    rcases (hch b hb).1 with z | z
    · exact hx z
    · exact absurd (Nat.lt_of_lt_of_le (Heap.lt_size e) z) (Nat.lt_irrefl _)
  have cellK : ∀ x c, X.env.cells.lookup x = some c → ∀ v, s.heap.IsCell c v → h'.IsCell c v := fun x c e v ⟨o, ho, hd⟩ => by
    have nch : c ∉ ch := fun z => (hch c z).2.2.1 x c e rfl
    by_cases hc : c ∈ X.fs
    · obtain ⟨sl, q⟩ := slot c o (I.cne x c e) hc nch ho (I.freeC x c e)
      exact ⟨_, q, hd⟩
    · exact ⟨o, keep c o (I.cne x c e) hc nch ho (I.freeC x c e), hd⟩
  refine ⟨I.ok, I.os, hg, ⟨fun b o e n hb hx => ?_, fun b o e n hb hx => ?_, fun b o e n hx => ?_, fun b o e hx => ?_, fun b xs e => tups b xs (I.base.tups b xs e), fun b o xs e => frzs b o xs (I.base.frzs b o xs e), fun b ps e => ?_⟩, ?_, fun x c e => ?_, ?_, fun x c e => ?_, fun p hp => ?_, hok, I.len⟩
  · exact keep b o (neL b o e) hb (neC b o e hx) (I.base.keep b o e n hb hx) (I.base.free b o e n hx)
  · obtain ⟨sl, e1⟩ := I.base.slot b o e n hb hx
    obtain ⟨sl', e2⟩ := slot b _ (neL b o e) hb (neC b o e hx) e1 (I.base.free b o e n hx)
    exact ⟨sl', e2⟩
  · obtain ⟨o', e1⟩ := I.base.there b o e hx
    exact free b o' (neC b o e hx) e1 (I.base.free b o e n hx)
  · obtain ⟨o', e1⟩ := I.base.there b o e hx
    exact there b o' (neC b o e hx) e1
  · obtain ⟨m1, e1⟩ := I.base.tbls b ps e
    obtain ⟨m2, e2⟩ := tbls b _ e1
    exact ⟨m1 ++ m2, by rw [e2, Array.append_assoc]⟩
  · obtain ⟨m, hn, hl⟩ := I.loc
    refine ⟨m, ns m hn, fun i x v e1 e2 e3 => ?_⟩
    obtain ⟨u, r, l⟩ := hl i x v e1 e2 e3
    refine ⟨u, r, ?_⟩
    rcases l with l | ⟨k, c, e, z⟩
    · exact .inl l
    · exact .inr ⟨k, c, e, cellK x c e _ z⟩
  · obtain ⟨v, z⟩ := I.cell x c e
    exact ⟨v, cellK x c e v z⟩
  · obtain ⟨m, ⟨o, _, _, ho, _⟩, _⟩ := I.loc
    exact free _ o (fun z => (hch _ z).2.1 rfl) ho I.free
  · obtain ⟨v, o, ho, hd⟩ := I.cell x c e
    exact free c o (fun z => (hch c z).2.2.1 x c e rfl) ho (I.freeC x c e)
  · obtain ⟨e, n, ne, nf, d⟩ := I.pin p hp
    have nch : p.1 ∉ ch := fun z => (hch p.1 z).2.2.2 p hp rfl
    exact ⟨keep p.1 p.2 ne nf nch e n, free p.1 p.2 nch e n, ne, nf, d⟩
/-- .. where the frame's own object is kept too -/
theorem Inv.un {t' : Nat} (I : Inv X pins σ H s) (u : Un X.fs [] H H' s.heap h') (hok : HOk X.prog X.w H' h') : Inv X pins σ H' { s with heap := h', toks := t' } := by
  obtain ⟨m, ⟨o, es, ep, ho, r⟩, _⟩ := id I.loc
  obtain ⟨sl, hL⟩ := u.any ho I.free (by simp)
  exact I.step (g' := s.gens) (d' := s.drawn) (ch := []) (fun _ z => nomatch z) (fun b o _ hb _ e n => u.keep b o e n hb (by simp)) (fun b o _ hb _ e n => u.slot b o e n hb (by simp)) (fun b o _ e n => u.free b o e n (by simp)) (fun b o _ e => u.there b o e (by simp)) u.tups u.frzs u.tbls (fun m' hm => by
    obtain ⟨o', es', ep', ho', r'⟩ := hm
    rw [ho] at ho'; cases ho'
    exact ⟨_, es', ep', hL, r'⟩) hok I.bare
/-- behind a call (or a comprehension's block): the slots of this frame may have changed too, the records at ch may have turned -/
theorem Inv.call {g' : Array GenState} {t' : Nat} {d' : Drawn} {ch : List Addr} (I : Inv X pins σ H s) (u : Un (frs X.stack) ch H H' s.heap h') (hok : HOk X.prog X.w H' h') (hg : AllBare g')
    (hch : ∀ b ∈ ch, (b ∈ X.ex ∨ X.s₀.heap.objs.size ≤ b) ∧ b ≠ X.env.locals ∧ (∀ x c, X.env.cells.lookup x = some c → c ≠ b) ∧ ∀ p ∈ X.pn ++ pins, p.1 ≠ b) :
    Inv X pins σ H' { s with heap := h', gens := g', drawn := d', toks := t' } := by
  obtain ⟨m, ⟨o, es, ep, ho, r⟩, _⟩ := id I.loc
  obtain ⟨sl, hL⟩ := u.any ho I.free fun z => (hch _ z).2.1 rfl
  exact I.step (ch := ch) hch (fun b o hL hb hc e n => u.keep b o e n (fun z => (List.mem_cons.mp (I.stkSub b z)).elim hL hb) hc) (fun b o _ _ hc e n => u.any e n hc) (fun b o hc e n => u.free b o e n hc) (fun b o hc e => u.there b o e hc) u.tups u.frzs u.tbls (fun m' hm => by
    obtain ⟨o', es', ep', ho', r'⟩ := hm
    rw [ho] at ho'; cases ho'
    exact ⟨_, es', ep', hL, r'⟩) hok hg
/-- an untracked record of ours (an iterator) has turned -/
theorem Inv.turned {t' : Nat} {it : Addr} (I : Inv X pins σ H s) (k : ∀ b o, b ≠ it → s.heap.get? b = some o → h'.get? b = some o) (hn : H it = none) (hL : it ≠ X.env.locals)
    (h1 : it ∈ X.ex ∨ X.s₀.heap.objs.size ≤ it) (h2 : ∀ x c, X.env.cells.lookup x = some c → c ≠ it) (h3 : ∀ p ∈ X.pn ++ pins, p.1 ≠ it) : Inv X pins σ H { s with heap := h', toks := t' } := by
  have nit : ∀ b u, H b = some u → b ≠ it := fun b u e z => by rw [z, hn] at e; cases e
  refine I.step (g' := s.gens) (d' := s.drawn) (ch := [it]) (fun b hb => ?_) (fun b o _ _ hc e _ => k b o (fun z => hc (by simp [z])) e) (fun b o _ _ hc e _ => ⟨o.slots, k b o (fun z => hc (by simp [z])) e⟩) (fun _ _ _ _ n => n)
    (fun b o hc e => ⟨o, k b o (fun z => hc (by simp [z])) e⟩) (fun _ _ e => e) (fun _ _ _ e => e) (fun b ps e => ⟨#[], by rw [e]; simp⟩) (fun m hm => ?_) (fun b u e => ?_) I.bare
  · have e : b = it := by simpa using hb
    subst e
    exact ⟨h1, hL, h2, h3⟩
  · obtain ⟨o, es, ep, ho, r⟩ := hm
    exact ⟨o, es, ep, k _ o (Ne.symm hL) ho, r⟩
  · refine (I.hok b u e).stay (fun c v hc q => k c v ?_ q) (fun _ q => q) fun _ _ q => q
    rcases hc with z | z
    · rw [z]; exact nit b u e
    · exact nit c _ z
theorem Inv.tok (I : Inv X pins σ H s) (t : Nat) : Inv X pins σ H { s with toks := t } := I.un (h' := s.heap) (t' := t) Un.refl I.hok
/-- all objects kept -/
theorem Inv.kept {t' : Nat} (I : Inv X pins σ H s) (k : ∀ b u, s.heap.get? b = some u → h'.get? b = some u) : Inv X pins σ H { s with heap := h', toks := t' } := I.un (Un.kept k) (I.hok.kept k)
/-- a new object laid and tracked -/
theorem Inv.laid {a : Addr} {o : HO} {t' : Nat} (I : Inv X pins σ H s) (k : ∀ b u, s.heap.get? b = some u → h'.get? b = some u) (hp : s.heap.objs.size ≤ a) (new : ObjOk X.prog X.w (upd H a o) h' a o) :
    Inv X pins σ (upd H a o) { s with heap := h', toks := t' } := I.un (Un.laid k hp (I.hok.fresh hp)) (I.hok.laid k hp new)
/-- an object written -/
theorem Inv.write {x e : Addr} {o : HO} {t' : Nat} (I : Inv X pins σ H s) (mu : Mut (H x)) (he : e = x ∨ H e = some (.own x)) (k : ∀ b u, b ≠ e → s.heap.get? b = some u → h'.get? b = some u) (heo : ∃ u, h'.get? e = some u)
    (new : ObjOk X.prog X.w (upd H x o) h' x o) : Inv X pins σ (upd H x o) { s with heap := h', toks := t' } := I.un (Un.write mu he k heo) (I.hok.write mu he k heo new)
/-- forgetting slots, pins -/
theorem Inv.weak {σ' : List (Option V)} (I : Inv X pins σ H s) (hl : σ'.length = σ.length) (w : ∀ (i : Nat) v, σ'[i]? = some (some v) → σ[i]? = some (some v)) : Inv X pins σ' H s :=
  ⟨I.ok, I.os, I.bare, I.base, let ⟨m, hn, hl'⟩ := I.loc; ⟨m, hn, fun i x v e1 e2 e3 => hl' i x v e1 (w i v e2) e3⟩, I.cell, I.free, I.freeC, I.pin, I.hok, hl.trans I.len⟩
theorem Inv.pins_of {pins' : List (Addr × Obj)} (I : Inv X pins σ H s) (h : ∀ p ∈ pins', s.heap.get? p.1 = some p.2 ∧ H p.1 = none ∧ p.1 ≠ X.env.locals ∧ p.1 ∉ X.fs ∧ ∀ v, p.2.data ≠ .cell v) : Inv X pins' σ H s :=
  ⟨I.ok, I.os, I.bare, I.base, I.loc, I.cell, I.free, I.freeC, fun p hp => (List.mem_append.mp hp).elim (fun z => I.pin p (List.mem_append_left _ z)) (h p), I.hok, I.len⟩

theorem nodup_ix {N : List Str} (hN : N.Nodup) {i j : Nat} {x : Str} (a : N[i]? = some x) (b : N[j]? = some x) : i = j := by
  obtain ⟨h1, e1⟩ := List.getElem?_eq_some_iff.mp a
  obtain ⟨h2, e2⟩ := List.getElem?_eq_some_iff.mp b
  exact (List.getElem_inj hN).mp (e1.trans e2.symm)

/-- a name is stored; what changed -/
theorem store_ok2 {M : Model} {A : Around} {E : Value → Shared → Prop} {i : Nat} {x : Str} {v : V} {u : Value} {Q : Unit → Shared → Prop} (I : Inv X pins σ H s) (hN : X.N.Nodup) (hi : X.N[i]? = some x) (hx : Loc X.env.scope x) (r : RelV v u)
    (h : ∀ s', Inv X pins (σ.set i (some v)) H s' → (∃ a, Heap.SameBut a s.heap s'.heap ∧ (a = X.env.locals ∨ X.env.cells.lookup x = some a)) → Q () s') (hf : X.fn x = true ∨ X.env.scope.names.lookup x = some .local := by first | exact .inl rfl | exact .inr rfl | assumption) : wpAny M A (storeName X.env x u) Q E s := by
  obtain ⟨m, hn, hl⟩ := id I.loc
  have hcls : (X.env.scope.kind == .class || (X.env.scope.kind == .module && X.env.locals != X.env.globals)) = false := by rw [I.ok.kind]; rfl
  have hiσ : i < σ.length := by rw [I.len]; exact (List.getElem?_eq_some_iff.mp hi).1
  have cne := I.cne
  have tracked : ∀ {a : Addr} {h' : Heap}, (∃ o, s.heap.get? a = some o ∧ H a = none) → Heap.SameBut a s.heap h' → HOk X.prog X.w H h' := fun {a h'} ha hs b ob e => by
    obtain ⟨_, _, hfree⟩ := ha
    refine (I.hok b ob e).stay (fun c w' hc q => (hs.2 c ?_).trans q) (fun _ q => q) fun _ _ q => q
    rintro rfl
    rcases hc with rfl | hc
    · rw [hfree] at e; cases e
    · rw [hfree] at hc; cases hc
  rcases hx with hk | hk
  · refine wpAny_storeName_local hk hn (fun h' hn' hs => ?_) hcls
    obtain ⟨oL, _, _, hoL, _⟩ := id hn
    refine h _ ⟨I.ok, I.os, I.bare, ⟨fun b o e n hb hx => ?_, fun b o e n hb hx => ?_, I.base.free, fun b o e hx => ?_, I.base.tups, I.base.frzs, I.base.tbls⟩, ⟨_, hn', fun j y v' e1 e2 e3 => ?_⟩, fun y c e => ?_, I.free, I.freeC, fun p hp => ?_, tracked ⟨oL, hoL, I.free⟩ hs, by simpa using I.len⟩ ⟨_, hs, .inl rfl⟩
    · exact (hs.2 b (Nat.ne_of_lt (Nat.lt_of_lt_of_le (Heap.lt_size e) I.ok.above))).trans (I.base.keep b o e n hb hx)
    · obtain ⟨sl, e1⟩ := I.base.slot b o e n hb hx
      exact ⟨sl, (hs.2 b (Nat.ne_of_lt (Nat.lt_of_lt_of_le (Heap.lt_size e) I.ok.above))).trans e1⟩
    · obtain ⟨o', e1⟩ := I.base.there b o e hx
      exact ⟨o', (hs.2 b (Nat.ne_of_lt (Nat.lt_of_lt_of_le (Heap.lt_size e) I.ok.above))).trans e1⟩
    · by_cases hj : j = i
      · subst hj
        rw [hi] at e1; cases e1
        rw [List.getElem?_set_self hiσ] at e2
        cases e2
        exact ⟨u, r, .inl ⟨hk, by simp⟩⟩
      · rw [List.getElem?_set_ne (Ne.symm hj)] at e2
        obtain ⟨u', r', q⟩ := hl j y v' e1 e2 e3
        refine ⟨u', r', ?_⟩
        rcases q with ⟨k, e⟩ | ⟨k, c, e, z⟩
        · refine .inl ⟨k, ?_⟩
          have : y ≠ x := fun e => hj (nodup_ix hN e1 (e ▸ hi))
          simp [this, e]
        · exact .inr ⟨k, c, e, z.sameBut hs (cne y c e)⟩
    · obtain ⟨w', z⟩ := I.cell y c e
      exact ⟨w', z.sameBut hs (cne y c e)⟩
    · obtain ⟨e, n, ne, nf, d⟩ := I.pin p hp
      exact ⟨(hs.2 p.1 ne).trans e, n, ne, nf, d⟩
  · have hfn : X.fn x = true := by
      rcases hf with z | z
      · exact z
      · rw [z] at hk; cases hk
    obtain ⟨c, hc⟩ := I.ok.has x (.inl hk)
    obtain ⟨w', z⟩ := I.cell x c hc
    refine wpAny_storeName_cell I.ok.kind hk hc z (fun h' hc' hs => ?_)
    obtain ⟨oc, hoc, hocd⟩ := id z
    refine h { s with heap := h' } ⟨I.ok, I.os, I.bare, ⟨fun b o e n hb hx => ?_, fun b o e n hb hx => ?_, I.base.free, fun b o e hx => ?_, I.base.tups, I.base.frzs, I.base.tbls⟩, ⟨m, hn.sameBut hs (Ne.symm (cne x c hc)), fun j y v' e1 e2 e3 => ?_⟩, fun y c' e => ?_, I.free, I.freeC, fun p hp => ?_, tracked ⟨oc, hoc, I.freeC x c hc⟩ hs, by simpa using I.len⟩ ⟨c, hs, .inr hc⟩
    · exact (hs.2 b (Nat.ne_of_lt (Nat.lt_of_lt_of_le (Heap.lt_size e) (I.ok.cab x c hfn hc)))).trans (I.base.keep b o e n hb hx)
    · obtain ⟨sl, e1⟩ := I.base.slot b o e n hb hx
      exact ⟨sl, (hs.2 b (Nat.ne_of_lt (Nat.lt_of_lt_of_le (Heap.lt_size e) (I.ok.cab x c hfn hc)))).trans e1⟩
    · obtain ⟨o', e1⟩ := I.base.there b o e hx
      exact ⟨o', (hs.2 b (Nat.ne_of_lt (Nat.lt_of_lt_of_le (Heap.lt_size e) (I.ok.cab x c hfn hc)))).trans e1⟩
    · by_cases hj : j = i
      · subst hj
        rw [hi] at e1; cases e1
        rw [List.getElem?_set_self hiσ] at e2
        cases e2
        exact ⟨u, r, .inr ⟨.inl hk, c, hc, hc'⟩⟩
      · rw [List.getElem?_set_ne (Ne.symm hj)] at e2
        obtain ⟨u', r', q⟩ := hl j y v' e1 e2 e3
        refine ⟨u', r', ?_⟩
        rcases q with q | ⟨k, c', e, z'⟩
        · exact .inl q
        · refine .inr ⟨k, c', e, z'.sameBut hs ?_⟩
          rintro rfl
          exact hj (nodup_ix hN e1 (I.ok.inj _ _ _ e hc ▸ hi))
    · by_cases hcc : c' = c
      · subst hcc; exact ⟨_, hc'⟩
      · obtain ⟨w2, z2⟩ := I.cell y c' e
        exact ⟨w2, z2.sameBut hs hcc⟩
    · obtain ⟨e, n, ne, nf, d⟩ := I.pin p hp
      refine ⟨(hs.2 p.1 ?_).trans e, n, ne, nf, d⟩
      intro q
      rw [q, hoc] at e
      have q' : oc = p.2 := Option.some.inj e
      exact d w' (by rw [← q']; exact hocd)
theorem store_ok {M : Model} {A : Around} {E : Value → Shared → Prop} {i : Nat} {x : Str} {v : V} {u : Value} {Q : Unit → Shared → Prop} (I : Inv X pins σ H s) (hN : X.N.Nodup) (hi : X.N[i]? = some x) (hx : Loc X.env.scope x) (r : RelV v u)
    (h : ∀ s', Inv X pins (σ.set i (some v)) H s' → Q () s') (hf : X.fn x = true ∨ X.env.scope.names.lookup x = some .local := by first | exact .inl rfl | exact .inr rfl | assumption) : wpAny M A (storeName X.env x u) Q E s :=
  store_ok2 I hN hi hx r (fun s' I' _ => h s' I') hf
/-- behind a call or a block, the state as it is -/
theorem Inv.call' {s' : Shared} {ch : List Addr} (I : Inv X pins σ H s) (ho : s'.os = s.os) (u : Un (frs X.stack) ch H H' s.heap s'.heap) (hok : HOk X.prog X.w H' s'.heap) (hg : AllBare s'.gens)
    (hch : ∀ b ∈ ch, (b ∈ X.ex ∨ X.s₀.heap.objs.size ≤ b) ∧ b ≠ X.env.locals ∧ (∀ x c, X.env.cells.lookup x = some c → c ≠ b) ∧ ∀ p ∈ X.pn ++ pins, p.1 ≠ b) : Inv X pins σ H' s' := by
  obtain ⟨h', g', d', t', o'⟩ := s'
  have e : o' = s.os := ho
  subst e
  exact I.call (g' := g') (t' := t') (d' := d') u hok hg hch
end

/-! ### the judgements -/
/-- an exception: its class, its own dict's address (where it has one), the abstract heap behind it -/
abbrev XK := Value → Option Addr → Hp → Prop
abbrev St := List (Option V)
abbrev VK := V → Hp → Prop
/-- an expression's reading; a test's; an argument list's -/
abbrev TE := St → Hp → VK → Prop
abbrev TT := St → Hp → (Bool → Hp → Prop) → Prop
abbrev TA := St → Hp → (List V → Hp → Prop) → Prop
/-- what is wanted behind a statement -/
structure Ends where
  nx : St → Hp → Prop
  rt : VK
  bk : St → Hp → Prop := fun _ _ => False
  ct : St → Hp → Prop := fun _ _ => False
abbrev TS := Ends → St → Hp → Prop

def EP (X : Cx) (pins : List (Addr × Obj)) (σ : St) (Q : VK) (u : Value) (s' : Shared) : Prop := ∃ v H', Inv X pins σ H' s' ∧ RelV v u ∧ Q v H'
def TP (X : Cx) (pins : List (Addr × Obj)) (σ : St) (Q : Bool → Hp → Prop) (b : Bool) (s' : Shared) : Prop := ∃ H', Inv X pins σ H' s' ∧ Q b H'
def AP (X : Cx) (pins : List (Addr × Obj)) (σ : St) (Q : List V → Hp → Prop) (us : List Value) (s' : Shared) : Prop := ∃ vs H', Inv X pins σ H' s' ∧ Vals vs us ∧ Q vs H'
def SP (X : Cx) (pins : List (Addr × Obj)) (D : Ends) (f : Flow) (s' : Shared) : Prop :=
  match f with
  | .next => ∃ σ' H', Inv X pins σ' H' s' ∧ D.nx σ' H'
  | .brk => ∃ σ' H', Inv X pins σ' H' s' ∧ D.bk σ' H'
  | .cont => ∃ σ' H', Inv X pins σ' H' s' ∧ D.ct σ' H'
  | .ret u => ∃ v σ' H', Inv X pins σ' H' s' ∧ RelV v u ∧ D.rt v H'

def PE (X : Cx) (e : Expr) (t : TE) : Prop :=
  ∀ (pins : List (Addr × Obj)) (s : Shared) (σ : St) (H : Hp) (Q : VK), Inv X pins σ H s → t σ H Q → wpAny (model X.prog X.w) X.A (eval e X.env) (EP X pins σ Q) X.xe s
def PT (X : Cx) (e : Expr) (t : TT) : Prop :=
  ∀ (pins : List (Addr × Obj)) (s : Shared) (σ : St) (H : Hp) (Q : Bool → Hp → Prop), Inv X pins σ H s → t σ H Q → wpAny (model X.prog X.w) X.A (isTrue e X.env (eval e X.env)) (TP X pins σ Q) X.xe s
/-- a test whatever its 'whole' is (and, or) -/
def PW (X : Cx) (e : Expr) (t : TT) : Prop :=
  ∀ (whole : Sem Value) (pins : List (Addr × Obj)) (s : Shared) (σ : St) (H : Hp) (Q : Bool → Hp → Prop), Inv X pins σ H s → t σ H Q → wpAny (model X.prog X.w) X.A (isTrue e X.env whole) (TP X pins σ Q) X.xe s
theorem PW.pt {X : Cx} {e : Expr} {t : TT} (h : PW X e t) : PT X e t := h _
/-- an argument list (no star), from the left -/
def PA (X : Cx) (es : List Expr) (t : TA) : Prop :=
  ∀ (pos : Pos) (pins : List (Addr × Obj)) (s : Shared) (σ : St) (H : Hp) (Q : List V → Hp → Prop), Inv X pins σ H s → t σ H Q → wpAny (model X.prog X.w) X.A (spliced (backTo pos (starEach es X.env))) (AP X pins σ Q) X.xe s
def PS (X : Cx) (st : Stmt) (t : TS) : Prop :=
  ∀ (pins : List (Addr × Obj)) (s : Shared) (σ : St) (H : Hp) (D : Ends), Inv X pins σ H s → t D σ H → wpAny (model X.prog X.w) X.A (exec st X.env) (SP X pins D) X.xe s
def PSs (X : Cx) (st : List Stmt) (t : TS) : Prop :=
  ∀ (pins : List (Addr × Obj)) (s : Shared) (σ : St) (H : Hp) (D : Ends), Inv X pins σ H s → t D σ H → wpAny (model X.prog X.w) X.A (execs st X.env) (SP X pins D) X.xe s
/-- weaken the end -/
theorem thn {α : Type} {t : Sem α} {Q Q' : α → Shared → Prop} {M : Model} {A : Around} {E : Value → Shared → Prop} {s : Shared} (h : wpAny M A t Q E s) (hQ : ∀ a s, Q a s → Q' a s) : wpAny M A t Q' E s := wpAny_mono h hQ fun _ _ x => x
end L2

namespace L2
open PySem PySem.Spec PyProof.Rows
section
variable {X : Cx}

/-- two expressions in a row -/
theorem bin {a b : Expr} {ta tb : TE} (ha : PE X a ta) (hb : PE X b tb) {pins : List (Addr × Obj)} {s : Shared} {σ : St} {H : Hp} {R : V → V → Hp → Prop} (I : Inv X pins σ H s) (h : ta σ H fun x H1 => tb σ H1 fun y H2 => R x y H2)
    {α : Type} {Q : α → Shared → Prop} {f : Value → Value → Sem α}
    (hf : ∀ v u s2 x y H2, Inv X pins σ H2 s2 → RelV x v → RelV y u → R x y H2 → wpAny (model X.prog X.w) X.A (f v u) Q X.xe s2) :
    wpAny (model X.prog X.w) X.A (eval a X.env) (fun v s₁ => wpAny (model X.prog X.w) X.A (eval b X.env) (fun u s₂ => wpAny (model X.prog X.w) X.A (f v u) Q X.xe s₂) X.xe s₁) X.xe s := by
  refine thn (ha pins s σ H _ I h) fun v s1 ⟨x, H1, I1, r1, q1⟩ => ?_
  refine thn (hb pins s1 σ H1 _ I1 q1) fun u s2 ⟨y, H2, I2, r2, q2⟩ => ?_
  exact hf v u s2 x y H2 I2 r1 r2 q2

/-! ### names and constants -/
def tVar (i : Nat) : TE := fun σ H Q => ∃ v, σ[i]? = some (some v) ∧ Q v H
def tC (v : V) : TE := fun _ H Q => Q v H
theorem pe_var {i : Nat} {x : Str} {pos : Pos} (hN : X.N[i]? = some x) (hv : Vis X.env.scope x) (hd : (x == ("__debug__" : Str)) = false := by decide) (hcd : (x == ("__classdict__" : Str)) = false := by decide) : PE X (.Name x pos) (tVar i) := by
  intro pins s σ H Q I h
  obtain ⟨v, e, h⟩ := h
  obtain ⟨m, hn, hl⟩ := I.loc
  obtain ⟨u, r, l⟩ := hl i x v hN e hv
  have fin : EP X pins σ Q u s := ⟨v, H, I, r, h⟩
  rcases l with ⟨hk, hm⟩ | ⟨hk, c, hc, hcell⟩
  · exact wpAny_Name (wpAny_loadName_local I.ok.kind hk hn hm fin) hd
  · rcases hk with hk | hk
    · exact wpAny_Name (wpAny_loadName_cell I.ok.kind hk hc hcell fin) hd
    · exact wpAny_Name (wpAny_loadName_free I.ok.kind hk hc hcell fin hcd) hd
theorem pe_int {i j pos} : PE X (.Constant (.int i) j pos) (tC (.int i)) := fun _ _ _ H _ I h => wpAny_Constant_int ⟨.int i, H, I.tok _, ⟨_, rfl⟩, h⟩
theorem pe_bl {b j pos} : PE X (.Constant (.bool b) j pos) (tC (.bl b)) := fun _ _ _ H _ I h => Constant_bool ⟨.bl b, H, I, rfl, h⟩
theorem pe_non {j pos} : PE X (.Constant .none j pos) (tC .non) := fun _ _ _ H _ I h => Constant_none ⟨.non, H, I, rfl, h⟩
theorem pe_str {x j pos} : PE X (.Constant (.str x) j pos) (tC (.str x)) := fun _ _ _ H _ I h => Calls.Constant_str ⟨.str x, H, I.tok _, ⟨_, rfl⟩, h⟩

/-- a global name of the def -/
def Gl (X : Cx) (x : Str) : Prop := X.env.kindOf x = some .globalImplicit
theorem ld_glob {E : Value → Shared → Prop} {pins : List (Addr × Obj)} {s : Shared} {σ : St} {H : Hp} {x : Str} {u : Value} {pos : Pos} {Q : Value → Shared → Prop} (I : Inv X pins σ H s) (hg : Gl X x) (hm : X.mg x = some u) (h : Q u s)
    (hd : (x == ("__debug__" : Str)) = false := by decide) : wpAny (model X.prog X.w) X.A (eval (.Name x pos) X.env) Q E s :=
  Calls.Name_function_global I.ok.kind hg (Calls.loadGlobal_global (by rw [I.ok.glob]; exact I.mod.glob.keeps I.bk) hm h) hd
theorem ld_blt {E : Value → Shared → Prop} {pins : List (Addr × Obj)} {s : Shared} {σ : St} {H : Hp} {x : Str} {u : Value} {pos : Pos} {Q : Value → Shared → Prop} (I : Inv X pins σ H s) (hg : Gl X x) (hm : X.mg x = none) (hv : bootBuiltins x = some u) (h : Q u s)
    (hn : x ≠ "__name__" := by decide) (hd : (x == ("__debug__" : Str)) = false := by decide) : wpAny (model X.prog X.w) X.A (eval (.Name x pos) X.env) Q E s := by
  obtain ⟨mb, h1, h2⟩ := I.mod.blt
  exact Calls.Name_function_global I.ok.kind hg (Calls.loadGlobal_builtin (by rw [I.ok.glob]; exact I.mod.glob.keeps I.bk) hm (by rw [I.ok.blt]; exact h1.keeps I.bk) ((h2 x hn).trans hv) h) hd
/-- a module's constant, a class, a function, as a value -/
theorem pe_glob {x : Str} {v : V} {u : Value} {pos : Pos} (hg : Gl X x) (hm : X.mg x = some u) (r : RelV v u) (hd : (x == ("__debug__" : Str)) = false := by decide) : PE X (.Name x pos) (tC v) :=
  fun _ _ _ H _ I h => ld_glob I hg hm ⟨v, H, I, r, h⟩ hd
theorem pe_bltn {x : Str} {v : V} {u : Value} {pos : Pos} (hg : Gl X x) (hm : X.mg x = none) (hv : bootBuiltins x = some u) (r : RelV v u) (hn : x ≠ "__name__" := by decide) (hd : (x == ("__debug__" : Str)) = false := by decide) : PE X (.Name x pos) (tC v) :=
  fun _ _ _ H _ I h => ld_blt I hg hm hv ⟨v, H, I, r, h⟩ hn hd

/-! ### arithmetic -/
/-- two ints -/
def t2I (ta tb : TE) (k : Int → Int → Hp → Prop) : St → Hp → Prop := fun σ H => ta σ H fun x H1 => tb σ H1 fun y H2 => ∃ i j, x = .int i ∧ y = .int j ∧ k i j H2
def tAdd (ta tb : TE) : TE := fun σ H Q => t2I ta tb (fun i j H2 => Q (.int (i + j)) H2) σ H
def tSub (ta tb : TE) : TE := fun σ H Q => t2I ta tb (fun i j H2 => Q (.int (i - j)) H2) σ H
/-- the left factor below 2^64 -/
def tMul (ta tb : TE) : TE := fun σ H Q => t2I ta tb (fun i j H2 => (-(2 ^ 64) < i ∧ i < 2 ^ 64) ∧ Q (.int (i * j)) H2) σ H
variable {a b : Expr} {ta tb : TE} {pos : Pos}
theorem pe_add (ha : PE X a ta) (hb : PE X b tb) : PE X (.BinOp a .Add b pos) (tAdd ta tb) := by
  intro pins s σ H Q I h
  refine wpAny_BinOp (bin ha hb I h fun v u s2 x y H2 I2 rx ry q => ?_)
  obtain ⟨i, j, rfl, rfl, q⟩ := q
  obtain ⟨t, rfl⟩ := rx
  obtain ⟨t', rfl⟩ := ry
  exact add_int ⟨.int _, H2, I2.tok _, ⟨_, rfl⟩, q⟩
theorem pe_sub (ha : PE X a ta) (hb : PE X b tb) : PE X (.BinOp a .Sub b pos) (tSub ta tb) := by
  intro pins s σ H Q I h
  refine wpAny_BinOp (bin ha hb I h fun v u s2 x y H2 I2 rx ry q => ?_)
  obtain ⟨i, j, rfl, rfl, q⟩ := q
  obtain ⟨t, rfl⟩ := rx
  obtain ⟨t', rfl⟩ := ry
  exact sub_int ⟨.int _, H2, I2.tok _, ⟨_, rfl⟩, q⟩
theorem pe_mul (ha : PE X a ta) (hb : PE X b tb) : PE X (.BinOp a .Mult b pos) (tMul ta tb) := by
  intro pins s σ H Q I h
  refine wpAny_BinOp (bin ha hb I h fun v u s2 x y H2 I2 rx ry q => ?_)
  obtain ⟨i, j, rfl, rfl, ⟨q1, q2⟩, q⟩ := q
  obtain ⟨t, rfl⟩ := rx
  obtain ⟨t', rfl⟩ := ry
  exact mul_int ⟨.int _, H2, I2.tok _, ⟨_, rfl⟩, q⟩ (.of_left (intBits_le_64 q1 q2))

/-! ### comparisons -/
def PC (X : Cx) (op : CmpOp) (a b : Expr) (t : TE) : Prop :=
  ∀ (pins : List (Addr × Obj)) (s : Shared) (σ : St) (H : Hp) (Q : VK), Inv X pins σ H s → t σ H Q →
    wpAny (model X.prog X.w) X.A (eval a X.env) (fun v s₁ => wpAny (model X.prog X.w) X.A (eval b X.env) (fun u s₂ => wpAny (model X.prog X.w) X.A (compareOp op v u) (EP X pins σ Q) X.xe s₂) X.xe s₁) X.xe s
theorem nobehind (b : Expr) {op : CmpOp} (h : op ≠ .In) (h2 : op ≠ .NotIn) : behindInMarks op b = false := by
  have e1 : (op == CmpOp.In) = false := by cases op <;> first | rfl | exact absurd rfl h
  have e2 : (op == CmpOp.NotIn) = false := by cases op <;> first | rfl | exact absurd rfl h2
  cases b <;> simp [behindInMarks, e1, e2]
def tCmp (p : Int → Int → Bool) (ta tb : TE) : TE := fun σ H Q => t2I ta tb (fun i j H2 => Q (.bl (p i j)) H2) σ H
abbrev tLt : TE → TE → TE := tCmp fun i j => decide (i < j)
abbrev tLe : TE → TE → TE := tCmp fun i j => decide (i ≤ j)
abbrev tGt : TE → TE → TE := tCmp fun i j => decide (j < i)
abbrev tGe : TE → TE → TE := tCmp fun i j => decide (j ≤ i)
abbrev tEqI : TE → TE → TE := tCmp fun i j => decide (i = j)
abbrev tNeI : TE → TE → TE := tCmp fun i j => !decide (i = j)
/-- a comparison of two ints, by its rule -/
theorem pc_int {op : CmpOp} {p : Int → Int → Bool} (ha : PE X a ta) (hb : PE X b tb)
    (rule : ∀ (i j : Int) (t u : Tok) (Q : Value → Shared → Prop) (s : Shared), Q (.bool (p i j)) s → wpAny (model X.prog X.w) X.A (compareOp op (.int i t) (.int j u)) Q X.xe s) : PC X op a b (tCmp p ta tb) := by
  intro pins s σ H Q I h
  refine bin ha hb I h fun v u s2 x y H2 I2 rx ry q => ?_
  obtain ⟨i, j, rfl, rfl, q⟩ := q
  obtain ⟨t, rfl⟩ := rx
  obtain ⟨t', rfl⟩ := ry
  exact rule i j t t' _ s2 ⟨.bl _, H2, I2, rfl, q⟩
theorem pc_lt (ha : PE X a ta) (hb : PE X b tb) : PC X .Lt a b (tLt ta tb) := pc_int ha hb fun _ _ _ _ _ _ h => lt_int h
theorem pc_le (ha : PE X a ta) (hb : PE X b tb) : PC X .LtE a b (tLe ta tb) := pc_int ha hb fun _ _ _ _ _ _ h => le_int h
theorem pc_gt (ha : PE X a ta) (hb : PE X b tb) : PC X .Gt a b (tGt ta tb) := pc_int ha hb fun _ _ _ _ _ _ h => gt_int h
theorem pc_ge (ha : PE X a ta) (hb : PE X b tb) : PC X .GtE a b (tGe ta tb) := pc_int ha hb fun _ _ _ _ _ _ h => ge_int h
theorem pc_eqI (ha : PE X a ta) (hb : PE X b tb) : PC X .Eq a b (tEqI ta tb) := pc_int ha hb fun _ _ _ _ _ _ h => eq_int (by rw [Bool.beq_eq_decide_eq]; exact h)
theorem pc_neI (ha : PE X a ta) (hb : PE X b tb) : PC X .NotEq a b (tNeI ta tb) := pc_int ha hb fun _ _ _ _ _ _ h => ne_int (by rw [bne, Bool.beq_eq_decide_eq]; exact h)
/-- is None -/
def tIsN (ta : TE) : TE := fun σ H Q => ta σ H fun x H1 => Q (.bl (decide (x = .non))) H1
def tNotN (ta : TE) : TE := fun σ H Q => ta σ H fun x H1 => Q (.bl (!decide (x = .non))) H1
theorem RelV.none_iff {x : V} {v : Value} (r : RelV x v) : (v == Value.none) = decide (x = .non) := by
  cases x with
  | non => cases r; rfl
  | bl _ => cases r; rfl
  | int _ => obtain ⟨t, rfl⟩ := r; rfl
  | str _ => obtain ⟨t, rfl⟩ := r; rfl
  | byt _ => obtain ⟨t, rfl⟩ := r; rfl
  | flt _ => obtain ⟨t, rfl⟩ := r; rfl
  | ref _ => cases r; rfl
  | ty _ => cases r; rfl
theorem pc_isN {j pos'} (ha : PE X a ta) : PC X .Is a (.Constant .none j pos') (tIsN ta) := by
  intro pins s σ H Q I h
  refine thn (ha pins s σ H _ I h) fun v s1 ⟨x, H1, I1, r1, q1⟩ => ?_
  exact Constant_none (is_none_gen ⟨.bl _, H1, I1, by rw [r1.none_iff]; rfl, q1⟩)
theorem pc_notN {j pos'} (ha : PE X a ta) : PC X .IsNot a (.Constant .none j pos') (tNotN ta) := by
  intro pins s σ H Q I h
  refine thn (ha pins s σ H _ I h) fun v s1 ⟨x, H1, I1, r1, q1⟩ => ?_
  exact Constant_none (isnot_none_gen ⟨.bl _, H1, I1, by rw [r1.none_iff]; rfl, q1⟩)
/-- a comparison as a value, as a test -/
def tB (t : TE) : TT := fun σ H Q => t σ H fun x H1 => ∃ c, x = .bl c ∧ Q c H1
theorem pe_cmp {op : CmpOp} {t : TE} (h : PC X op a b t) (h1 : behindInMarks op b = false := by first | exact nobehind _ (by decide) (by decide) | rfl) : PE X (.Compare a [op] [b] pos) t := fun pins s σ H Q I hw => wpAny_Compare1 (h pins s σ H Q I hw) h1
theorem pt_cmp {op : CmpOp} {t : TE} (h : PC X op a b t) (h1 : behindInMarks op b = false := by first | exact nobehind _ (by decide) (by decide) | rfl) : PT X (.Compare a [op] [b] pos) (tB t) := by
  intro pins s σ H Q I hw
  refine wpAny_isTrue_Compare1 (thn (h pins s σ H _ I hw) fun v s1 h1 => thn h1 fun u s2 h2 => thn h2 fun c s3 ⟨x, H1, I1, r1, q1⟩ => ?_) h1
  obtain ⟨d, rfl, q⟩ := q1
  cases r1
  exact wpAny_truthy_bool ⟨H1, I1, q⟩
/-- an expression whose value is a bool, as a test -/
theorem pt_val {e : Expr} {t : TE} (h : PE X e t) (he : ∀ whole, isTrue e X.env whole = (do let v ← whole; standAt e.pos; holding [v] (truthy v)) := by intro _; rfl) : PT X e (tB t) := by
  intro pins s σ H Q I hw
  refine isTrue_plain (thn (h pins s σ H _ I hw) fun v s1 ⟨x, H1, I1, r1, q1⟩ => ?_) (he _)
  obtain ⟨d, rfl, q⟩ := q1
  cases r1
  exact wpAny_truthy_bool ⟨H1, I1, q⟩

/-! ### and, or, not -/
variable {tA tB' : TT} {rest : List Expr}
def tAnd (t u : TT) : TT := fun σ H Q => t σ H fun c H1 => if c = true then u σ H1 Q else Q false H1
def tOr (t u : TT) : TT := fun σ H Q => t σ H fun c H1 => if c = true then Q true H1 else u σ H1 Q
def tNot (t : TT) : TT := fun σ H Q => t σ H fun c H1 => Q (!c) H1
theorem pw_and1 (ha : PT X a tA) : PW X (.BoolOp .And [a] pos) tA := by
  intro wh pins s σ H Q I h
  refine isTrue_and (thn (ha pins s σ H Q I h) fun c s1 e => ?_)
  cases c with
  | true => exact isTrue_and_nil e
  | false => exact e
theorem pw_or1 (ha : PT X a tA) : PW X (.BoolOp .Or [a] pos) tA := by
  intro wh pins s σ H Q I h
  refine isTrue_or (thn (ha pins s σ H Q I h) fun c s1 e => ?_)
  cases c with
  | false => exact isTrue_or_nil e
  | true => exact e
theorem pw_and (ha : PT X a tA) (hb : PW X (.BoolOp .And (b :: rest) pos) tB') : PW X (.BoolOp .And (a :: b :: rest) pos) (tAnd tA tB') := by
  intro wh pins s σ H Q I h
  refine isTrue_and (thn (ha pins s σ H _ I h) fun c s1 ⟨H1, I1, q1⟩ => ?_)
  cases c with
  | true => exact hb wh pins s1 σ H1 Q I1 q1
  | false => exact ⟨H1, I1, q1⟩
theorem pw_or (ha : PT X a tA) (hb : PW X (.BoolOp .Or (b :: rest) pos) tB') : PW X (.BoolOp .Or (a :: b :: rest) pos) (tOr tA tB') := by
  intro wh pins s σ H Q I h
  refine isTrue_or (thn (ha pins s σ H _ I h) fun c s1 ⟨H1, I1, q1⟩ => ?_)
  cases c with
  | true => exact ⟨H1, I1, q1⟩
  | false => exact hb wh pins s1 σ H1 Q I1 q1
theorem pt_not (ha : PT X a tA) : PT X (.UnaryOp .Not a pos) (tNot tA) := by
  intro pins s σ H Q I h
  exact isTrue_not (ha pins s σ H (fun c H1 => Q (!c) H1) I h)
/-- .. as values (bools) -/
def tAndV (ta tb : TE) : TE := fun σ H Q => ta σ H fun x H1 => ∃ c, x = .bl c ∧ if c = true then tb σ H1 Q else Q (.bl false) H1
def tOrV (ta tb : TE) : TE := fun σ H Q => ta σ H fun x H1 => ∃ c, x = .bl c ∧ if c = true then Q (.bl true) H1 else tb σ H1 Q
def tNotV (ta : TE) : TE := fun σ H Q => ta σ H fun x H1 => ∃ c, x = .bl c ∧ Q (.bl (!c)) H1
theorem pe_one {op} {t : TE} (h : PE X a t) : PE X (.BoolOp op [a] pos) t := fun pins s σ H Q I hw => BoolOp_one (h pins s σ H Q I hw)
theorem pe_and (ha : PE X a ta) (hb : PE X (.BoolOp .And (b :: rest) pos) tb) : PE X (.BoolOp .And (a :: b :: rest) pos) (tAndV ta tb) := by
  intro pins s σ H Q I h
  refine BoolOp_and (thn (ha pins s σ H _ I h) fun v s1 ⟨x, H1, I1, r1, q1⟩ => ?_)
  obtain ⟨c, rfl, q1⟩ := q1
  cases r1
  refine wpAny_truthy_bool ?_
  cases c with
  | true => exact hb pins s1 σ H1 Q I1 q1
  | false => exact ⟨.bl false, H1, I1, rfl, q1⟩
theorem pe_or (ha : PE X a ta) (hb : PE X (.BoolOp .Or (b :: rest) pos) tb) : PE X (.BoolOp .Or (a :: b :: rest) pos) (tOrV ta tb) := by
  intro pins s σ H Q I h
  refine BoolOp_or (thn (ha pins s σ H _ I h) fun v s1 ⟨x, H1, I1, r1, q1⟩ => ?_)
  obtain ⟨c, rfl, q1⟩ := q1
  cases r1
  refine wpAny_truthy_bool ?_
  cases c with
  | false => exact hb pins s1 σ H1 Q I1 q1
  | true => exact ⟨.bl true, H1, I1, rfl, q1⟩
theorem pe_not (ha : PE X a ta) : PE X (.UnaryOp .Not a pos) (tNotV ta) := by
  intro pins s σ H Q I h
  refine UnaryOp_ (thn (ha pins s σ H _ I h) fun v s1 ⟨x, H1, I1, r1, q1⟩ => ?_)
  obtain ⟨c, rfl, q1⟩ := q1
  cases r1
  exact not_of (wpAny_truthy_bool ⟨.bl (!c), H1, I1, rfl, q1⟩)
/-- a if t else b -/
def tIf (t : TT) (ta tb : TE) : TE := fun σ H Q => t σ H fun c H1 => if c = true then ta σ H1 Q else tb σ H1 Q
theorem pe_ifExp {c : Expr} (hc : PT X c tA) (ha : PE X a ta) (hb : PE X b tb) : PE X (.IfExp c a b pos) (tIf tA ta tb) := by
  intro pins s σ H Q I h
  refine wpAny_IfExp (thn (hc pins s σ H _ I h) fun d s1 ⟨H1, I1, q1⟩ => ?_)
  cases d with
  | true => exact ha pins s1 σ H1 Q I1 q1
  | false => exact hb pins s1 σ H1 Q I1 q1
end
end L2

namespace L2
open PySem PySem.Spec PyProof.Rows

/-! ### a list, a tuple that is read: tracked, frozen, or an object of the module -/
def SqL (K : PySem.W.Frag) (H : Hp) (a : Addr) (xs : List V) : Prop :=
  Rd H a (.lst xs) ∨
    ∃ (o : Obj) (its : Array Value) (n : Nat), K.lookup a = some o ∧ o.cls = .type "list" ∧ o.dict = none ∧ o.data = .seq its n ∧ its.size ≤ sizeLine ∧ Vals xs its.toList
def SqT (K : PySem.W.Frag) (H : Hp) (a : Addr) (xs : List V) : Prop :=
  Rd H a (.tup xs) ∨
    ∃ (o : Obj) (its : Array Value) (n : Nat), K.lookup a = some o ∧ o.cls = .type "tuple" ∧ o.data = .seq its n ∧ its.size ≤ sizeLine ∧ Vals xs its.toList
def absV : Value → Option V
  | .none => some .non
  | .bool b => some (.bl b)
  | .int i _ => some (.int i)
  | .str x _ => some (.str x)
  | .bytes b _ => some (.byt b)
  | .float b _ => some (.flt b)
  | .ref a => some (.ref a)
  | .type n => some (.ty n)
  | _ => none
theorem RelV.abs {x : V} {u : Value} (r : RelV x u) : absV u = some x := by
  cases x with
  | non => cases r; rfl
  | bl _ => cases r; rfl
  | int _ => obtain ⟨t, rfl⟩ := r; rfl
  | str _ => obtain ⟨t, rfl⟩ := r; rfl
  | byt _ => obtain ⟨t, rfl⟩ := r; rfl
  | flt _ => obtain ⟨t, rfl⟩ := r; rfl
  | ref _ => cases r; rfl
  | ty _ => cases r; rfl
theorem RelV.inj {x y : V} {u : Value} (r : RelV x u) (q : RelV y u) : x = y := Option.some.inj (r.abs.symm.trans q.abs)
theorem Vals.inj : ∀ {xs ys : List V} {us : List Value}, Vals xs us → Vals ys us → xs = ys
  | _, _, _, .nil, .nil => rfl
  | _, _, _, .cons r t, .cons r' t' => by rw [r.inj r', Vals.inj t t']
section
variable {X : Cx} {pins : List (Addr × Obj)} {σ : St} {H : Hp} {s : Shared} {a : Addr} {xs ys : List V}
theorem SqL.of {K : PySem.W.Frag} (h : H a = some (.lst xs)) : SqL K H a xs := .inl (.inl h)
theorem SqT.of {K : PySem.W.Frag} (h : H a = some (.tup xs)) : SqT K H a xs := .inl (.inl h)
theorem Inv.list (I : Inv X pins σ H s) (h : SqL X.K H a xs) : ∃ its : List Value, Vals xs its ∧ PlainL s.heap a its.toArray ∧ xs.length ≤ sizeLine := by
  rcases h with h | ⟨o, its, n, hk, hc, hd, hs, hz, r⟩
  · obtain ⟨z, its, n, r, e⟩ := h.ok I.hok
    exact ⟨its, r, ⟨_, n, e, rfl, rfl, rfl⟩, z⟩
  · refine ⟨its.toList, r, ⟨o, n, I.kIn a o hk, hc, hd, by simpa using hs⟩, ?_⟩
    have e := r.length
    simp only [Array.length_toList] at e
    omega
theorem Inv.tuple (I : Inv X pins σ H s) (h : SqT X.K H a xs) : ∃ its : List Value, Vals xs its ∧ IsTup s.heap a its.toArray ∧ xs.length ≤ sizeLine := by
  rcases h with h | ⟨o, its, n, hk, hc, hs, hz, r⟩
  · obtain ⟨z, its, r, p⟩ := h.ok I.hok
    exact ⟨its, r, p, z⟩
  · refine ⟨its.toList, r, ⟨o, I.kIn a o hk, hc, n, by simpa using hs⟩, ?_⟩
    have e := r.length
    simp only [Array.length_toList] at e
    omega
theorem Inv.list_inj (I : Inv X pins σ H s) (h : SqL X.K H a xs) (h' : SqL X.K H a ys) : xs = ys := by
  obtain ⟨its, r, ⟨o, n, e, _, _, d⟩, _⟩ := I.list h
  obtain ⟨its', r', ⟨o', n', e', _, _, d'⟩, _⟩ := I.list h'
  rw [e] at e'; cases e'
  rw [d] at d'
  injection d' with d1 _
  have : its = its' := by simpa using congrArg Array.toList d1
  subst this
  exact r.inj r'
theorem Inv.tuple_inj (I : Inv X pins σ H s) (h : SqT X.K H a xs) (h' : SqT X.K H a ys) : xs = ys := by
  obtain ⟨its, r, ⟨o, e, _, n, d⟩, _⟩ := I.tuple h
  obtain ⟨its', r', ⟨o', e', _, n', d'⟩, _⟩ := I.tuple h'
  rw [e] at e'; cases e'
  rw [d] at d'
  injection d' with d1 _
  have : its = its' := by simpa using congrArg Array.toList d1
  subst this
  exact r.inj r'
end

/-! ### another wish about exceptions -/
abbrev Cx.wish (X : Cx) (E : Value → Shared → Prop) : Cx := { X with xe := E }
/-- no exception leaves -/
abbrev Cx.nox (X : Cx) : Cx := X.wish fun _ _ => False
theorem Cx.Ok.wish {X : Cx} (ok : X.Ok) (E : Value → Shared → Prop) : (X.wish E).Ok :=
  ⟨ok.mod, ok.kind, ok.glob, ok.blt, ok.above, ok.inj, ok.has, ok.cab, ok.hd, ok.frames, ok.stk, ok.exf, ok.bs, ok.bsz, ok.noex, ok.exfs, ok.funs, ok.frf⟩
theorem Cx.Ok.unwish {X : Cx} {E : Value → Shared → Prop} (ok : (X.wish E).Ok) : X.Ok :=
  ⟨ok.mod, ok.kind, ok.glob, ok.blt, ok.above, ok.inj, ok.has, ok.cab, ok.hd, ok.frames, ok.stk, ok.exf, ok.bs, ok.bsz, ok.noex, ok.exfs, ok.funs, ok.frf⟩
section
variable {X : Cx} {pins : List (Addr × Obj)} {σ : St} {H : Hp} {s : Shared} {E : Value → Shared → Prop}
theorem Inv.wish (I : Inv X pins σ H s) (E : Value → Shared → Prop) : Inv (X.wish E) pins σ H s := ⟨I.ok.wish E, I.os, I.bare, I.base, I.loc, I.cell, I.free, I.freeC, I.pin, I.hok, I.len⟩
theorem Inv.unwish (I : Inv (X.wish E) pins σ H s) : Inv X pins σ H s := ⟨I.ok.unwish, I.os, I.bare, I.base, I.loc, I.cell, I.free, I.freeC, I.pin, I.hok, I.len⟩
theorem SP.unwish {D : Ends} {f : Flow} {s' : Shared} (h : SP (X.wish E) pins D f s') : SP X pins D f s' := by
  cases f with
  | next => obtain ⟨σ', H', I, q⟩ := h; exact ⟨σ', H', I.unwish, q⟩
  | brk => obtain ⟨σ', H', I, q⟩ := h; exact ⟨σ', H', I.unwish, q⟩
  | cont => obtain ⟨σ', H', I, q⟩ := h; exact ⟨σ', H', I.unwish, q⟩
  | ret u => obtain ⟨v, σ', H', I, r, q⟩ := h; exact ⟨v, σ', H', I.unwish, r, q⟩
theorem PE.nox {e : Expr} {t : TE} (h : PE X.nox e t) : PE X e t := fun pins s σ H Q I hw =>
  wpAny_mono (h pins s σ H Q (I.wish _) hw) (fun _ _ ⟨v, H', I', r, q⟩ => ⟨v, H', I'.unwish, r, q⟩) fun _ _ z => False.elim z
theorem PT.nox {e : Expr} {t : TT} (h : PT X.nox e t) : PT X e t := fun pins s σ H Q I hw =>
  wpAny_mono (h pins s σ H Q (I.wish _) hw) (fun _ _ ⟨H', I', q⟩ => ⟨H', I'.unwish, q⟩) fun _ _ z => False.elim z
theorem PSs.nox {st : List Stmt} {t : TS} (h : PSs X.nox st t) : PSs X st t := fun pins s σ H D I hw =>
  wpAny_mono (h pins s σ H D (I.wish _) hw) (fun _ _ q => q.unwish) fun _ _ z => False.elim z
end

/-! ### blocks and small statements -/
section
variable {X : Cx} {st : Stmt} {rest : List Stmt} {t u : TS} {e : Expr} {te : TE} {pos : Pos}
def tNext : TS := fun D σ H => D.nx σ H
def tSeq (t u : TS) : TS := fun D σ H => t { D with nx := u D } σ H
theorem pss_nil : PSs X [] tNext := fun _ _ σ H _ I h => wpAny_execs_nil ⟨σ, H, I, h⟩
theorem pss_cons (h1 : PS X st t) (h2 : PSs X rest u) : PSs X (st :: rest) (tSeq t u) := by
  intro pins s σ H D I h
  refine wpAny_execs_cons (thn (h1 pins s σ H { D with nx := u D } I h) fun f s1 q => ?_)
  cases f with
  | next =>
    obtain ⟨σ', H', I', q⟩ := q
    exact h2 pins s1 σ' H' D I' q
  | ret v => exact q
  | brk => exact q
  | cont => exact q
theorem pss_one (h1 : PS X st t) : PSs X [st] t := by
  intro pins s σ H D I h
  refine wpAny_execs_cons (thn (h1 pins s σ H D I h) fun f s1 q => ?_)
  cases f with
  | next => exact wpAny_execs_nil q
  | ret v => exact q
  | brk => exact q
  | cont => exact q
def tBreak : TS := fun D σ H => D.bk σ H
def tCont : TS := fun D σ H => D.ct σ H
theorem ps_pass : PS X (.Pass pos) tNext := fun _ _ σ H _ I h => wpAny_Pass ⟨σ, H, I, h⟩
theorem ps_break : PS X (.Break pos) tBreak := fun _ _ σ H _ I h => wpAny_Break ⟨σ, H, I, h⟩
theorem ps_continue : PS X (.Continue pos) tCont := fun _ _ σ H _ I h => wpAny_Continue ⟨σ, H, I, h⟩
/-- in a def's body nothing is shown -/
theorem Inv.quiet {pins : List (Addr × Obj)} {σ : St} {H : Hp} {s : Shared} (I : Inv X pins σ H s) : interactive X.env = false := by simp [interactive, I.ok.kind]
/-- a docstring -/
theorem ps_doc {x j pos pos'} : PS X (.Expr (.Constant (.str x) j pos) pos') tNext := fun _ s σ H _ I h => wpAny_Expr (Calls.Constant_str (show SP X _ _ .next { s with toks := s.toks + 1 } from ⟨σ, H, I.tok _, h⟩)) I.quiet
/-- an expression whose value is dropped -/
def tDrop (te : TE) : TS := fun D σ H => te σ H fun _ H1 => D.nx σ H1
theorem ps_expr (he : PE X e te) (hs : swapsWith e none pos.line X.env = pure false := by rfl) : PS X (.Expr e pos) (tDrop te) := by
  intro pins s σ H D I h
  exact wpAny_Expr_any (thn (he pins s σ H _ I h) fun v s1 ⟨x, H1, I1, r1, q1⟩ => ⟨σ, H1, I1, q1⟩) I.quiet hs
def tRet (te : TE) : TS := fun D σ H => te σ H D.rt
theorem ps_ret (he : PE X e te) : PS X (.Return (some e) pos) (tRet te) := by
  intro pins s σ H D I h
  exact wpAny_Return_some (thn (he pins s σ H _ I h) fun v s1 ⟨x, H1, I1, r1, q1⟩ => ⟨x, σ, H1, I1, r1, q1⟩)
def tRetN : TS := fun D _ H => D.rt .non H
theorem ps_retN : PS X (.Return none pos) tRetN := fun _ _ σ H _ I h => wpAny_Return_none ⟨.non, σ, H, I, rfl, h⟩
def tIfS (c : TT) (t u : TS) : TS := fun D σ H => c σ H fun b H1 => if b = true then t D σ H1 else u D σ H1
theorem ps_if {c : Expr} {a b : List Stmt} {tc : TT} (hc : PT X c tc) (ha : PSs X a t) (hb : PSs X b u) : PS X (.If c a b pos) (tIfS tc t u) := by
  intro pins s σ H D I h
  refine wpAny_If (thn (hc pins s σ H _ I h) fun d s1 ⟨H1, I1, q1⟩ => ?_)
  cases d with
  | true => exact ha pins s1 σ H1 D I1 q1
  | false => exact hb pins s1 σ H1 D I1 q1
/-- code that the proof never comes to -/
def tNever : TS := fun _ _ _ => False
theorem ps_never : PS X st tNever := fun _ _ _ _ _ _ h => h.elim
theorem pss_never {sts : List Stmt} : PSs X sts tNever := fun _ _ _ _ _ _ h => h.elim
end

/-! ### targets -/
abbrev TG := V → St → Hp → (St → Hp → Prop) → Prop
abbrev TGs := List V → St → Hp → (St → Hp → Prop) → Prop
def PG (X : Cx) (target : Expr) (t : TG) : Prop :=
  ∀ (pins : List (Addr × Obj)) (s : Shared) (σ : St) (H : Hp) (v : V) (u : Value) (Q : St → Hp → Prop), Inv X pins σ H s → RelV v u → t v σ H Q →
    wpAny (model X.prog X.w) X.A (assign target X.env u) (fun _ s' => ∃ σ' H', Inv X pins σ' H' s' ∧ Q σ' H') X.xe s
/-- several targets, one after another -/
def PGs (X : Cx) (ts : List Expr) (t : TGs) : Prop :=
  ∀ (pins : List (Addr × Obj)) (s : Shared) (σ : St) (H : Hp) (vs : List V) (us : List Value) (Q : St → Hp → Prop), Inv X pins σ H s → Vals vs us → t vs σ H Q →
    wpAny (model X.prog X.w) X.A (assignInOrder ((assignEach ts X.env).map (·.2)) us) (fun _ s' => ∃ σ' H', Inv X pins σ' H' s' ∧ Q σ' H') X.xe s
/-- o[i] = v, by values -/
abbrev TSet := V → V → V → Hp → (Hp → Prop) → Prop
def PSet (X : Cx) (t : TSet) : Prop :=
  ∀ (pins : List (Addr × Obj)) (s : Shared) (σ : St) (H : Hp) (o i v : V) (ov iv u : Value) (Q : Hp → Prop), Inv X pins σ H s → RelV o ov → RelV i iv → RelV v u → t o i v H Q →
    wpAny (model X.prog X.w) X.A (setItem ov iv u) (fun _ s' => ∃ H', Inv X pins σ H' s' ∧ Q H') X.xe s
/-- a op= b, by values -/
abbrev TIp := V → V → Hp → VK → Prop
def PIp (X : Cx) (op : Operator) (t : TIp) : Prop :=
  ∀ (pins : List (Addr × Obj)) (s : Shared) (σ : St) (H : Hp) (x y : V) (v u : Value) (Q : VK), Inv X pins σ H s → RelV x v → RelV y u → t x y H Q →
    wpAny (model X.prog X.w) X.A (inplaceOp op v u) (EP X pins σ Q) X.xe s
section
variable {X : Cx} {pos : Pos}
def gName (i : Nat) : TG := fun v σ H Q => Q (σ.set i (some v)) H
theorem pg_name {i : Nat} {x : Str} (hN : X.N.Nodup) (hi : X.N[i]? = some x) (hx : Loc X.env.scope x) (hf : X.fn x = true ∨ X.env.scope.names.lookup x = some .local := by first | exact .inl rfl | exact .inr rfl | assumption) : PG X (.Name x pos) (gName i) := by
  intro pins s σ H v u Q I r h
  exact wpAny_assign_Name (store_ok I hN hi hx r (fun s' I' => ⟨_, H, I', h⟩) hf)
def gNil : TGs := fun vs σ H Q => vs = [] ∧ Q σ H
def gCons (t : TG) (u : TGs) : TGs := fun vs σ H Q => ∃ v r, vs = v :: r ∧ t v σ H fun σ' H' => u r σ' H' Q
theorem pgs_nil : PGs X [] gNil := by
  intro pins s σ H vs us Q I r h
  obtain ⟨e, h⟩ := h
  subst e
  cases r
  exact assignInOrder_nil ⟨σ, H, I, h⟩
theorem pgs_cons {e : Expr} {es : List Expr} {t : TG} {u : TGs} (h1 : PG X e t) (h2 : PGs X es u)
    (hs : (assignEach (e :: es) X.env).map (·.2) = assign e X.env :: (assignEach es X.env).map (·.2) := by rfl) : PGs X (e :: es) (gCons t u) := by
  intro pins s σ H vs us Q I r h
  obtain ⟨v, vr, e1, h⟩ := h
  subst e1
  cases r with
  | cons r rr =>
    rw [hs]
    refine assignInOrder_cons (thn (h1 pins s σ H _ _ _ I r h) fun _ s1 ⟨σ1, H1, I1, q1⟩ => ?_)
    exact h2 pins s1 σ1 H1 _ _ Q I1 rr q1
/-- (a, b, ..) = a tuple of that length -/
def gTup (K : PySem.W.Frag) (n : Nat) (t : TGs) : TG := fun v σ H Q => ∃ a xs, v = .ref a ∧ SqT K H a xs ∧ xs.length = n ∧ t xs σ H Q
theorem pg_tup {es : List Expr} {k : Nat} {t : TGs} {n : Nat} (hc : X.calm = true) (h : PGs X es t)
    (hn : (assignEach es X.env).length = n := by rfl) (hst : (assignEach es X.env).findIdx? (·.1) = none := by rfl) : PG X (.Tuple es k pos) (gTup X.K n t) := by
  intro pins s σ H v u Q I r hw
  obtain ⟨a, xs, e1, hq, hl, hw⟩ := hw
  subst e1
  cases r
  obtain ⟨its, rv, ht, hz⟩ := I.tuple hq
  refine assign_Tuple_tuple (I.ok.hd hc) ht (by simp [hn, ← hl, rv.length]) hst fun h' hx => ?_
  have I1 : Inv X pins σ H { s with heap := h' } := I.kept (t' := s.toks) fun b o e => hx b o (Nat.ne_of_lt (Heap.lt_size e)) e
  exact h pins _ σ H xs _ Q I1 (by simpa using rv) hw
/-- o[i] = .. -/
def gSub (to ti : TE) (t : TSet) : TG := fun v σ H Q => to σ H fun o H1 => ti σ H1 fun i H2 => t o i v H2 fun H3 => Q σ H3
theorem pg_sub {o i : Expr} {to ti : TE} {t : TSet} (ho : PE X o to) (hi : PE X i ti) (hs : PSet X t)
    (ha : ∀ v, assign (.Subscript o i pos) X.env v = (do
      let ov ← holding [v] (eval o X.env)
      let iv ← holding [v, ov] (eval i X.env)
      standAt pos
      holding [v, ov, iv] (setItem ov iv v)
      release [v, ov, iv] []) := by intro _; rfl) : PG X (.Subscript o i pos) (gSub to ti t) := by
  intro pins s σ H v u Q I r h
  rw [ha]
  refine wpAny_bind (wpAny_holding (thn (ho pins s σ H _ I h) fun ov s1 ⟨x, H1, I1, r1, q1⟩ => ?_))
  refine wpAny_bind (wpAny_holding (thn (hi pins s1 σ H1 _ I1 q1) fun iv s2 ⟨y, H2, I2, r2, q2⟩ => ?_))
  refine wpAny_bind (wpAny_standAt (wpAny_bind (wpAny_holding (thn (hs pins s2 σ H2 x y v ov iv u _ I2 r1 r2 r q2) fun _ s3 ⟨H3, I3, q3⟩ => ?_))))
  exact wpAny_release ⟨σ, H3, I3, q3⟩
/-- target = value -/
def tAsg (te : TE) (g : TG) : TS := fun D σ H => te σ H fun x H1 => g x σ H1 D.nx
theorem ps_asg {tg e : Expr} {te : TE} {g : TG} (he : PE X e te) (hg : PG X tg g) (hs : swapsWithSole [tg] e pos.line X.env = pure false := by rfl) (hw : swappedStores [tg] e X.env = pure none := by rfl)
    (h1 : (assignEach [tg] X.env).map (·.2) = [assign tg X.env] := by rfl) : PS X (.Assign [tg] e pos) (tAsg te g) := by
  intro pins s σ H D I h
  refine wpAny_Assign_stores (thn (he pins s σ H _ I h) fun v s1 ⟨x, H1, I1, r1, q1⟩ => ?_) hs hw
  rw [h1]
  exact thn (hg pins s1 σ H1 x v _ I1 r1 q1) fun _ s2 q => q
/-- name = value -/
theorem ps_set {i : Nat} {x : Str} {e : Expr} {te : TE} {pos' : Pos} (hN : X.N.Nodup) (hi : X.N[i]? = some x) (hx : Loc X.env.scope x) (he : PE X e te) (hs : swapsWith e (some (.Name x pos')) pos.line X.env = pure false := by rfl) (hf : X.fn x = true ∨ X.env.scope.names.lookup x = some .local := by first | exact .inl rfl | exact .inr rfl | assumption) :
    PS X (.Assign [.Name x pos'] e pos) (tAsg te (gName i)) := by
  intro pins s σ H D I h
  refine wpAny_Assign_Name (thn (he pins s σ H _ I h) fun v s1 ⟨y, H1, I1, r1, q1⟩ => ?_) hs
  exact store_ok I1 hN hi hx r1 (fun s2 I2 => ⟨_, H1, I2, q1⟩) hf
/-- a, b = x, y with plain local names: stored from the right; the pair itself is not tracked (the opening rows as in PyProof/Rows/TupAssign.lean:23) -/
def tPar (i j : Nat) (ta : TA) : TS := fun D σ H => ta σ H fun vs H1 => ∃ v w, vs = [v, w] ∧ D.nx ((σ.set i (some v)).set j (some w)) H1
theorem ps_par {i j : Nat} {x y : Str} {a b : Expr} {ta : TA} {px py pt : Pos} {kt k2 pt2} (hc : X.calm = true) (hN : X.N.Nodup) (hi : X.N[i]? = some x) (hj : X.N[j]? = some y) (hij : i ≠ j)
    (hx : X.env.scope.names.lookup x = some .local) (hy : X.env.scope.names.lookup y = some .local) (ha : PA X [a, b] ta)
    (hw : swappedStores [.Tuple [.Name x px, .Name y py] kt pt] (.Tuple [a, b] k2 pt2) X.env = pure (some [x, y]))
    (hs : swapsWithSole [.Tuple [.Name x px, .Name y py] kt pt] (.Tuple [a, b] k2 pt2) pos.line X.env = pure false := by rfl) :
    PS X (.Assign [.Tuple [.Name x px, .Name y py] kt pt] (.Tuple [a, b] k2 pt2) pos) (tPar i j ta) := by
  intro pins s σ H D I h
  rw [exec_Assign_arm]
  refine wpAny_bind (wpAny_standAt ?_)
  rw [hs]
  refine wpAny_bind (wpAny_pure ?_)
  rw [if_neg (by decide)]
  refine wpAny_bind (Tuple_ (thn (ha _ pins s σ H _ I h) fun us s1 ⟨vs, H1, I1, r1, q1⟩ => ?_))
  obtain ⟨v, w, e1, q1⟩ := q1
  subst e1
  obtain ⟨u1, u2, rfl, rv, rw'⟩ : ∃ u1 u2, us = [u1, u2] ∧ RelV v u1 ∧ RelV w u2 := by
    cases r1 with
    | cons p q =>
      cases q with
      | cons p' q' =>
        cases q'
        exact ⟨_, _, rfl, p, p'⟩
  refine wpAny_newObj_type ?_ (by show 2 ≤ sizeLine; decide)
  have I2 : Inv X pins σ H1 { s1 with heap := s1.heap.push { cls := .type "tuple", data := .seq [u1, u2].toArray } } := I1.kept (t' := s1.toks) fun b o e => Heap.get?_push_of_some _ e
  rw [hw]
  refine wpAny_bind (wpAny_pure ?_)
  show wpAny (model X.prog X.w) X.A (do rule "assign.swapped-stores"; let items ← unpackItems (.ref s1.heap.objs.size) 2 none; assignInOrder [fun v => bindName X.env y v, fun v => bindName X.env x v] items.reverse; pure Flow.next) _ _ _
  refine wpAny_bind (wpAny_rule (wpAny_bind (unpackItems_tuple (items := #[u1, u2]) (I.ok.hd hc) (IsTup.new s1.heap _) fun h' hx' => ?_)))
  have I3 := I2.kept (h' := h') (t' := s1.toks) fun b o e => hx' b o (Nat.ne_of_lt (Heap.lt_size e)) e
  show wpAny _ _ (assignInOrder [fun v => bindName X.env y v, fun v => bindName X.env x v] [u2, u1] >>= fun _ => pure Flow.next) _ _ _
  refine wpAny_bind (assignInOrder_cons (wpAny_bindName (store_ok I3 hN hj (.inl hy) rw' (fun s2 I4 => ?_) (.inr hy))))
  refine assignInOrder_cons (wpAny_bindName (store_ok I4 hN hi (.inl hx) rv (fun s3 I5 => assignInOrder_nil (wpAny_pure ?_)) (.inr hx)))
  rw [List.set_comm _ _ (Ne.symm hij)] at I5
  exact ⟨_, H1, I5, q1⟩
/-- name op= e -/
def tAug (i : Nat) (te : TE) (ti : TIp) : TS := fun D σ H => ∃ x, σ[i]? = some (some x) ∧ te σ H fun y H1 => ti x y H1 fun z H2 => D.nx (σ.set i (some z)) H2
theorem ps_aug {i : Nat} {x : Str} {e : Expr} {te : TE} {op : Operator} {ti : TIp} {pos' : Pos} (hN : X.N.Nodup) (hi : X.N[i]? = some x) (hx : Loc X.env.scope x) (he : PE X e te) (ho : PIp X op ti) (hf : X.fn x = true ∨ X.env.scope.names.lookup x = some .local := by first | exact .inl rfl | exact .inr rfl | assumption) :
    PS X (.AugAssign (.Name x pos') op e pos) (tAug i te ti) := by
  intro pins s σ H D I h
  obtain ⟨v, e1, h⟩ := h
  obtain ⟨m, hn, hl⟩ := I.loc
  have vis : Vis X.env.scope x := by rcases hx with k | k; exact .inl k; exact .inr (.inl k)
  obtain ⟨u, r, l⟩ := hl i x v hi e1 vis
  refine wpAny_AugAssign_Name ?_
  have go : wpAny (model X.prog X.w) X.A (eval e X.env) (fun w s₂ => wpAny (model X.prog X.w) X.A (inplaceOp op u w) (fun r s₃ => wpAny (model X.prog X.w) X.A (storeName X.env x r) (fun _ => SP X pins D .next) X.xe s₃) X.xe s₂) X.xe s := by
    refine thn (he pins s σ H _ I h) fun w s1 ⟨y, H1, I1, r1, q1⟩ => ?_
    refine thn (ho pins s1 σ H1 v y u w _ I1 r r1 q1) fun z s2 ⟨zv, H2, I2, r2, q2⟩ => ?_
    exact store_ok I2 hN hi hx r2 (fun s3 I3 => ⟨_, H2, I3, q2⟩) hf
  rcases l with ⟨hk, hm⟩ | ⟨hk, c, hc, hcell⟩
  · exact wpAny_loadName_local I.ok.kind hk hn hm go
  · rcases hk with hk | hk
    · exact wpAny_loadName_cell I.ok.kind hk hc hcell go
    · rcases hx with k | k
      · have : X.env.scope.names.lookup x = some .free := hk
        rw [k] at this; cases this
      · have : X.env.scope.names.lookup x = some .free := hk
        rw [k] at this; cases this
/-- o[i] op= e -/
def tAugS (to ti te : TE) (tget : V → V → Hp → VK → Prop) (tip : TIp) (tset : TSet) : TS := fun D σ H => to σ H fun o H1 => ti σ H1 fun i H2 => tget o i H2 fun x H3 => te σ H3 fun y H4 => tip x y H4 fun z H5 => tset o i z H5 fun H6 => D.nx σ H6
/-- o[i], by values -/
def PGet (X : Cx) (t : V → V → Hp → VK → Prop) : Prop :=
  ∀ (pins : List (Addr × Obj)) (s : Shared) (σ : St) (H : Hp) (o i : V) (ov iv : Value) (Q : VK), Inv X pins σ H s → RelV o ov → RelV i iv → t o i H Q →
    wpAny (model X.prog X.w) X.A (getItem ov iv) (EP X pins σ Q) X.xe s
theorem ps_augS {o i e : Expr} {to ti te : TE} {tget : V → V → Hp → VK → Prop} {tip : TIp} {tset : TSet} {op : Operator} {tpos : Pos} (ho : PE X o to) (hi : PE X i ti) (hg : PGet X tget) (he : PE X e te) (hp : PIp X op tip) (hs : PSet X tset)
    (ha : ∀ ov iv new, augStore i ov iv new = (do holding [new, ov, iv] (setItem ov iv new); release [new, ov, iv] []; pure .next) := by intros; rfl) : PS X (.AugAssign (.Subscript o i tpos) op e pos) (tAugS to ti te tget tip tset) := by
  intro pins s σ H D I h
  refine wpAny_AugAssign_SubscriptAny (thn (ho pins s σ H _ I h) fun ov s1 ⟨x1, H1, I1, r1, q1⟩ => ?_) ha
  refine thn (hi pins s1 σ H1 _ I1 q1) fun iv s2 ⟨x2, H2, I2, r2, q2⟩ => ?_
  refine thn (hg pins s2 σ H2 x1 x2 ov iv _ I2 r1 r2 q2) fun old s3 ⟨x3, H3, I3, r3, q3⟩ => ?_
  refine thn (he pins s3 σ H3 _ I3 q3) fun v s4 ⟨x4, H4, I4, r4, q4⟩ => ?_
  refine thn (hp pins s4 σ H4 x3 x4 old v _ I4 r3 r4 q4) fun new s5 ⟨x5, H5, I5, r5, q5⟩ => ?_
  exact thn (hs pins s5 σ H5 x1 x2 x5 ov iv new _ I5 r1 r2 r5 q5) fun _ s6 ⟨H6, I6, q6⟩ => ⟨σ, H6, I6, q6⟩
/-- ints -/
def ipI (f : Int → Int → Int) : TIp := fun x y H Q => ∃ i j, x = .int i ∧ y = .int j ∧ Q (.int (f i j)) H
theorem ip_add : PIp X .Add (ipI fun i j => i + j) := by
  intro pins s σ H x y v u Q I r1 r2 h
  obtain ⟨i, j, e1, e2, q⟩ := h
  subst e1; subst e2
  obtain ⟨t, rfl⟩ := r1
  obtain ⟨t', rfl⟩ := r2
  exact iadd_int ⟨.int _, H, I.tok _, ⟨_, rfl⟩, q⟩
theorem ip_sub : PIp X .Sub (ipI fun i j => i - j) := by
  intro pins s σ H x y v u Q I r1 r2 h
  obtain ⟨i, j, e1, e2, q⟩ := h
  subst e1; subst e2
  obtain ⟨t, rfl⟩ := r1
  obtain ⟨t', rfl⟩ := r2
  exact isub_int ⟨.int _, H, I.tok _, ⟨_, rfl⟩, q⟩
end

/-! ### while -/
section
variable {X : Cx} {pos : Pos}
/-- the invariant W with its measure -/
def tWhile (c : TT) (tb : TS) : TS := fun D σ H => ∃ W : Nat → St → Hp → Prop, (∃ m, W m σ H) ∧ ∀ m σ H, W m σ H →
  c σ H fun b H1 => if b = true then ∃ N : St → Hp → Prop, (∀ σ' H', N σ' H' → ∃ m', m' < m ∧ W m' σ' H') ∧ tb { D with nx := N, ct := N, bk := D.nx } σ H1 else D.nx σ H1
theorem ps_while {c : Expr} {body : List Stmt} {tc : TT} {tb : TS} (hp : PassesOwn (model X.prog X.w) X.A X.env X.xe) (hc : PT X c tc) (hb : PSs X body tb) : PS X (.While c body [] pos) (tWhile tc tb) := by
  intro pins s σ H D I h
  obtain ⟨W, ⟨m0, w0⟩, turn⟩ := h
  refine wpAny_While (codeAny_whileLoop (fun n s' => ∃ σ' H', Inv X pins σ' H' s' ∧ W n σ' H') ?_ m0 ⟨σ, H, I, w0⟩)
  rintro n s1 ⟨σ1, H1, I1, w1⟩
  refine wpAny_passesOwn hp (thn (hc pins s1 σ1 H1 _ I1 (turn n σ1 H1 w1)) fun b s2 ⟨H2, I2, q2⟩ => ?_)
  cases b with
  | true =>
    obtain ⟨N, hN, q2⟩ := q2
    rw [if_pos rfl]
    refine wpAny_passesOwn hp (thn (hb pins s2 σ1 H2 _ I2 q2) fun f s3 q3 => ?_)
    cases f with
    | next =>
      obtain ⟨σ3, H3, I3, n3⟩ := q3
      obtain ⟨m', hm, w3⟩ := hN σ3 H3 n3
      exact ⟨m', hm, σ3, H3, I3, w3⟩
    | cont =>
      obtain ⟨σ3, H3, I3, n3⟩ := q3
      obtain ⟨m', hm, w3⟩ := hN σ3 H3 n3
      exact ⟨m', hm, σ3, H3, I3, w3⟩
    | brk => exact q3
    | ret v => exact q3
  | false =>
    rw [if_neg Bool.false_ne_true]
    exact wpAny_execs_nil ⟨σ1, H2, I2, q2⟩
end

/-! ### what a loop or a comprehension walks -/
/-- at turn i: it yields x (the heap may grow), or it stops -/
structure It where
  go : Nat → Hp → Prop
  yld : Nat → Hp → V → Hp → Prop
  stop : Nat → Hp → Prop
/-- the iterator's own objects may turn: they are not the frame's, not pinned, younger than the entry (or a comprehension's own) -/
def FpOk (X : Cx) (pins : List (Addr × Obj)) (H : Hp) (b : Addr) : Prop :=
  H b = none ∧ b ≠ X.env.locals ∧ b ∉ X.fs ∧ (b ∈ X.ex ∨ X.s₀.heap.objs.size ≤ b) ∧ (∀ x c, X.env.cells.lookup x = some c → c ≠ b) ∧ ∀ p ∈ X.pn ++ pins, p.1 ≠ b
theorem Inv.fpOk {X : Cx} {pins : List (Addr × Obj)} {σ : St} {H H' : Hp} {s : Shared} {b : Addr} (I : Inv X pins σ H s) (hb : s.heap.objs.size ≤ b) (hn : H' b = none) : FpOk X pins H' b := by
  refine ⟨hn, Nat.ne_of_gt (Nat.lt_of_lt_of_le I.lt hb), I.nofs hb, .inr (Nat.le_trans I.sz hb), fun x c e z => ?_, fun p hp z => ?_⟩
  · obtain ⟨v, q⟩ := I.cell x c e
    exact absurd (Nat.lt_of_lt_of_le q.lt (by rw [z]; exact hb)) (Nat.lt_irrefl _)
  · exact absurd (Nat.lt_of_lt_of_le (Heap.lt_size (I.pin p hp).1) (by rw [z]; exact hb)) (Nat.lt_irrefl _)
structure Turn (P : Program) (w : World) (K : PySem.W.Frag) (tg : Expr) (J : It) (fp : List Addr) (it : Addr) (tn : Nat → Heap → Prop) : Prop where
  mem : it ∈ fp
  obj : ∀ i h, tn i h → ∀ b ∈ fp, ∃ o, h.get? b = some o ∧ ∀ v, o.data ≠ .cell v
  keep : ∀ i h h', tn i h → (∀ b ∈ fp, ∀ o, h.get? b = some o → h'.get? b = some o) → tn i h'
  item : ∀ (X : Cx), X.prog = P → X.w = w → X.K = K → X.calm = true → ∀ (i : Nat) (pins : List (Addr × Obj)) (s : Shared) (σ : St) (H : Hp) (E : Value → Shared → Prop), Inv X pins σ H s → (∀ b ∈ fp, FpOk X pins H b) → tn i s.heap → J.go i H →
    wpAny (model P w) X.A (pyNext (.ref it)) (fun r s1 => ∃ u, r = some u ∧
      wpAny (model P w) X.A (letOwnedTupleGo tg (.ref it) u) (fun _ s2 => ∃ x H', Inv X pins σ H' s2 ∧ RelV x u ∧ J.yld i H x H' ∧ tn (i + 1) s2.heap ∧ ∀ b ∈ fp, H' b = none) E s1) E s
  done : ∀ (X : Cx), X.prog = P → X.w = w → X.K = K → X.calm = true → ∀ (i : Nat) (pins : List (Addr × Obj)) (s : Shared) (σ : St) (H : Hp) (E : Value → Shared → Prop), Inv X pins σ H s → (∀ b ∈ fp, FpOk X pins H b) → tn i s.heap → J.stop i H →
    wpAny (model P w) X.A (pyNext (.ref it)) (fun r s1 => r = none ∧ Inv X pins σ H s1) E s
  self : ∀ (A : Around) (i : Nat) (s : Shared) (Q : Value → Shared → Prop) (E : Value → Shared → Prop), tn i s.heap → Q (.ref it) s → wpAny (model P w) A (pyIter (.ref it)) Q E s
abbrev TI := St → Hp → (It → Hp → Prop) → Prop
/-- an iterator has come -/
def PIE (X : Cx) (pins : List (Addr × Obj)) (σ : St) (tg : Expr) (R : It → Hp → Prop) (itv : Value) (s2 : Shared) : Prop :=
  ∃ (it : Addr) (fp : List Addr) (tn : Nat → Heap → Prop) (J : It) (H' : Hp), itv = .ref it ∧ Inv X pins σ H' s2 ∧ Turn X.prog X.w X.K tg J fp it tn ∧ tn 0 s2.heap ∧ (∀ b ∈ fp, FpOk X pins H' b) ∧ R J H'
def PI (X : Cx) (tg iter : Expr) (wi : TI) : Prop :=
  ∀ (pins : List (Addr × Obj)) (s : Shared) (σ : St) (H : Hp) (R : It → Hp → Prop), Inv X pins σ H s → wi σ H R →
    wpAny (model X.prog X.w) X.A (eval iter X.env) (fun v s1 => wpAny (model X.prog X.w) X.A (pyIter v) (PIE X pins σ tg R) X.xe s1) X.xe s

/-- the step ahead of the store is nothing for an iterator that keeps no tuple -/
theorem go_of {M : Model} {A : Around} {E : Value → Shared → Prop} {s : Shared} {tg : Expr} {it : Addr} {u : Value} {o : Obj} {n : String} {vs : Array Value} {Q : Unit → Shared → Prop} (ho : s.heap.get? it = some o) (hc : o.cls = .type n) (hd : o.data = .fields vs)
    (hn : ["enumerate", "zip", "dict_itemiterator", "dict_reverseitemiterator", "odict_iterator", "itertools.zip_longest", "itertools.pairwise"].contains n = false) (hQ : Q () s) : wpAny M A (letOwnedTupleGo tg (.ref it) u) Q E s := by
  unfold letOwnedTupleGo
  cases tg <;> first
    | exact wpAny_pure hQ
    | (cases u <;> first
        | exact wpAny_pure hQ
        | (refine wpAny_bind (wpAny_load ho ?_)
           rw [hc, hd]
           show wpAny M A (if (["enumerate", "zip", "dict_itemiterator", "dict_reverseitemiterator", "odict_iterator", "itertools.zip_longest", "itertools.pairwise"].contains n && vs[0]? == some (rawInt _)) = true then _ else _) Q E s
           rw [if_neg (by intro h; rw [hn, Bool.false_and] at h; cases h)]
           exact wpAny_pure hQ))

/-- the list at a, as it stands at each turn (a loop may append to it) -/
def Itl (K : PySem.W.Frag) (a : Addr) : It :=
  ⟨fun i H => ∃ xs x, SqL K H a xs ∧ xs[i]? = some x, fun i H x H' => H' = H ∧ ∀ xs, SqL K H a xs → xs[i]? = some x, fun i H => ∃ xs, SqL K H a xs ∧ xs.length ≤ i⟩
def Itt (K : PySem.W.Frag) (a : Addr) : It :=
  ⟨fun i H => ∃ xs x, SqT K H a xs ∧ xs[i]? = some x, fun i H x H' => H' = H ∧ ∀ xs, SqT K H a xs → xs[i]? = some x, fun i H => ∃ xs, SqT K H a xs ∧ xs.length ≤ i⟩
/-- lo, lo + 1, .. (n of them) -/
def Itr (lo : Int) (n : Nat) : It := ⟨fun i _ => i < n, fun i H x H' => H' = H ∧ x = .int (lo + i), fun i _ => n ≤ i⟩
theorem turn_list {P : Program} {w : World} {K : PySem.W.Frag} {tg : Expr} (a it : Addr) : Turn P w K tg (Itl K a) [it] it (fun i h => h.IsListIter it a i) where
  mem := by simp
  obj := fun i h st b hb => by
    have e : b = it := by simpa using hb
    subst e
    obtain ⟨o, e, c, d⟩ := st
    exact ⟨o, e, fun v z => by rw [d] at z; cases z⟩
  keep := fun i h h' st k => st.at fun o e => k it (by simp) o e
  item := by
    intro X hP hw hK hc i pins s σ H E I hf st hg
    subst hP hw hK
    obtain ⟨xs, x, hq, hx⟩ := hg
    obtain ⟨its, rv, p, hz⟩ := I.list hq
    obtain ⟨u, hu, ru⟩ := rv.get hx
    obtain ⟨f0, f1, f2, f3, f4, f5⟩ := hf it (by simp)
    refine wpAny_pyNext_list_item st p.isList (x := u) (by simpa using hu) fun h' st' sb => ?_
    have I1 : Inv X pins σ H { s with heap := h' } := I.turned (t' := s.toks) (fun b o hb e => (sb.2 b hb).trans e) f0 f1 f3 f4 f5
    obtain ⟨o, e, c, d⟩ := id st'
    exact ⟨u, rfl, go_of (s := { s with heap := h' }) e c d (by decide) ⟨x, H, I1, ru, ⟨rfl, fun ys hy => by rw [I.list_inj hy hq]; exact hx⟩, st', fun b hb => (hf b hb).1⟩⟩
  done := by
    intro X hP hw hK hc i pins s σ H E I hf st hg
    subst hP hw hK
    obtain ⟨xs, hq, hx⟩ := hg
    obtain ⟨its, rv, p, hz⟩ := I.list hq
    obtain ⟨f0, f1, f2, f3, f4, f5⟩ := hf it (by simp)
    have hl := rv.length
    exact wpAny_pyNext_list_end (I.ok.hd hc) st p.isList (by simp; omega) fun h' eb => ⟨rfl, I.turned (t' := s.toks) (fun b o hb e => eb b o hb e) f0 f1 f3 f4 f5⟩
  self := fun _ _ _ _ _ st h => wpAny_pyIter_listiter st h
theorem turn_tuple {P : Program} {w : World} {K : PySem.W.Frag} {tg : Expr} (a it : Addr) : Turn P w K tg (Itt K a) [it] it (fun i h => h.IsTupleIter it a i) where
  mem := by simp
  obj := fun i h st b hb => by
    have e : b = it := by simpa using hb
    subst e
    obtain ⟨o, e, c, d⟩ := st
    exact ⟨o, e, fun v z => by rw [d] at z; cases z⟩
  keep := fun i h h' st k => st.at fun o e => k it (by simp) o e
  item := by
    intro X hP hw hK hc i pins s σ H E I hf st hg
    subst hP hw hK
    obtain ⟨xs, x, hq, hx⟩ := hg
    obtain ⟨its, rv, p, hz⟩ := I.tuple hq
    obtain ⟨u, hu, ru⟩ := rv.get hx
    obtain ⟨f0, f1, f2, f3, f4, f5⟩ := hf it (by simp)
    refine wpAny_pyNext_tuple_item st (show s.heap.IsTuple a its.toArray from p) (x := u) (by simpa using hu) fun h' st' sb => ?_
    have I1 : Inv X pins σ H { s with heap := h' } := I.turned (t' := s.toks) (fun b o hb e => (sb.2 b hb).trans e) f0 f1 f3 f4 f5
    obtain ⟨o, e, c, d⟩ := id st'
    exact ⟨u, rfl, go_of (s := { s with heap := h' }) e c d (by decide) ⟨x, H, I1, ru, ⟨rfl, fun ys hy => by rw [I.tuple_inj hy hq]; exact hx⟩, st', fun b hb => (hf b hb).1⟩⟩
  done := by
    intro X hP hw hK hc i pins s σ H E I hf st hg
    subst hP hw hK
    obtain ⟨xs, hq, hx⟩ := hg
    obtain ⟨its, rv, p, hz⟩ := I.tuple hq
    obtain ⟨f0, f1, f2, f3, f4, f5⟩ := hf it (by simp)
    have hl := rv.length
    exact wpAny_pyNext_tuple_end (I.ok.hd hc) st (show s.heap.IsTuple a its.toArray from p) (by simp; omega) fun h' eb => ⟨rfl, I.turned (t' := s.toks) (fun b o hb e => eb b o hb e) f0 f1 f3 f4 f5⟩
  self := fun _ _ _ _ _ st h => wpAny_pyIter_tupleiter st h
theorem turn_range {P : Program} {w : World} {K : PySem.W.Frag} {tg : Expr} (it : Addr) (lo : Int) (n : Nat) : Turn P w K tg (Itr lo n) [it] it (fun i h => IsRangeIter h it (lo + (i : Nat) * 1) ((n : Int) - (i : Nat)) 1) where
  mem := by simp
  obj := fun i h st b hb => by
    have e : b = it := by simpa using hb
    subst e
    exact ⟨_, st, fun v z => by
      have z' : Data.fields _ = Data.cell v := z
      cases z'⟩
  keep := fun i h h' st k => k it (by simp) _ st
  item := by
    intro X hP hw hK hc i pins s σ H E I hf st hg
    subst hP hw hK
    obtain ⟨f0, f1, f2, f3, f4, f5⟩ := hf it (by simp)
    have W := Walks.range (prog := X.prog) (w := X.w) (I.ok.hd hc) it lo 1 n
    refine W.item i s _ _ hg st fun v h' tk hv st' kk => ?_
    obtain ⟨t, rfl⟩ := hv
    have I1 : Inv X pins σ H { s with heap := h', toks := tk } := I.turned (fun b o hb e => kk b o (by simpa using hb) e) f0 f1 f3 f4 f5
    refine ⟨_, rfl, go_of (s := { s with heap := h', toks := tk }) (n := "range_iterator") st' rfl rfl (by decide) ⟨.int (lo + i), H, I1, ⟨t, ?_⟩, ⟨rfl, rfl⟩, st', fun b hb => (hf b hb).1⟩⟩
    rw [Int.mul_one]
  done := by
    intro X hP hw hK hc i pins s σ H E I hf st hg
    subst hP hw hK
    obtain ⟨f0, f1, f2, f3, f4, f5⟩ := hf it (by simp)
    exact wpAny_pyNext_range_end (I.ok.hd hc) st (by have : n ≤ i := hg; omega) fun h' eb => ⟨rfl, I.turned (t' := s.toks) (fun b o hb e => eb b o hb e) f0 f1 f3 f4 f5⟩
  self := fun _ _ _ _ _ st h => wpAny_pyIter_rangeiter st h
end L2

namespace L2
open PySem PySem.Spec PyProof.Rows
section
variable {X : Cx} {tg : Expr}
def iList (K : PySem.W.Frag) (tl : TE) : TI := fun σ H R => tl σ H fun x H1 => ∃ a, x = .ref a ∧ (∃ xs, SqL K H1 a xs) ∧ R (Itl K a) H1
def iTup (K : PySem.W.Frag) (tl : TE) : TI := fun σ H R => tl σ H fun x H1 => ∃ a, x = .ref a ∧ (∃ xs, SqT K H1 a xs) ∧ R (Itt K a) H1
theorem pi_list {l : Expr} {tl : TE} (hl : PE X l tl) : PI X tg l (iList X.K tl) := by
  intro pins s σ H R I h
  refine thn (hl pins s σ H _ I h) fun v s1 ⟨x, H1, I1, r1, q1⟩ => ?_
  obtain ⟨a, e, ⟨xs, hq⟩, q⟩ := q1
  subst e
  cases r1
  obtain ⟨its, rv, p, hz⟩ := I1.list hq
  refine wpAny_pyIter_list p.isList ?_
  refine ⟨s1.heap.objs.size, [s1.heap.objs.size], _, _, H1, rfl, I1.kept (t' := s1.toks) fun b o e => Heap.get?_push_of_some _ e, turn_list a _, ⟨_, Heap.get?_push_size _ rfl, rfl, rfl⟩, fun b hb => ?_, q⟩
  have e : b = s1.heap.objs.size := by simpa using hb
  subst e
  exact I1.fpOk (Nat.le_refl _) (I1.hok.fresh (Nat.le_refl _))
theorem pi_tup {l : Expr} {tl : TE} (hl : PE X l tl) : PI X tg l (iTup X.K tl) := by
  intro pins s σ H R I h
  refine thn (hl pins s σ H _ I h) fun v s1 ⟨x, H1, I1, r1, q1⟩ => ?_
  obtain ⟨a, e, ⟨xs, hq⟩, q⟩ := q1
  subst e
  cases r1
  obtain ⟨its, rv, p, hz⟩ := I1.tuple hq
  refine wpAny_pyIter_tuple (show s1.heap.IsTuple a its.toArray from p) ?_
  refine ⟨s1.heap.objs.size, [s1.heap.objs.size], _, _, H1, rfl, I1.kept (t' := s1.toks) fun b o e => Heap.get?_push_of_some _ e, turn_tuple a _, ⟨_, Heap.get?_push_size _ rfl, rfl, rfl⟩, fun b hb => ?_, q⟩
  have e : b = s1.heap.objs.size := by simpa using hb
  subst e
  exact I1.fpOk (Nat.le_refl _) (I1.hok.fresh (Nat.le_refl _))
/-- a range object just made, walked -/
theorem range_it {pins : List (Addr × Obj)} {σ : St} {H : Hp} {s : Shared} {R : It → Hp → Prop} {E : Value → Shared → Prop} {lo hi : Int} {t u v : Tok} {tk : Nat} (I : Inv X pins σ H s) (h1 : -(2 ^ 62) ≤ lo) (h2 : lo < 2 ^ 62) (h3 : -(2 ^ 62) ≤ hi) (h4 : hi < 2 ^ 62)
    (q : R (Itr lo (hi - lo).toNat) H) : wpAny (model X.prog X.w) X.A (pyIter (.ref s.heap.objs.size)) (PIE X pins σ tg R) E { s with heap := s.heap.push { cls := .type "range", data := .fields #[.int lo t, .int hi u, .int 1 v] }, toks := tk } := by
  refine wpAny_pyIter_range (IsRange.new ..) (small_one h1 h2 h3 h4) ?_
  have I1 : Inv X pins σ H { s with heap := s.heap.push { cls := .type "range", data := .fields #[.int lo t, .int hi u, .int 1 v] }, toks := tk } := I.kept fun b o e => Heap.get?_push_of_some _ e
  refine ⟨(s.heap.push { cls := .type "range", data := .fields #[.int lo t, .int hi u, .int 1 v] }).objs.size, [(s.heap.push { cls := .type "range", data := .fields #[.int lo t, .int hi u, .int 1 v] }).objs.size], _, _, H, rfl,
    I1.kept (t' := tk) fun b o e => Heap.get?_push_of_some _ e, turn_range _ lo (hi - lo).toNat, ?_, fun b hb => ?_, q⟩
  · have e1 : lo + ((0 : Nat) : Int) * 1 = lo := by simp
    have e2 : (((hi - lo).toNat : Nat) : Int) - ((0 : Nat) : Int) = Builtin.Range.rangeSize lo hi 1 := by rw [rangeSize_one]; split <;> omega
    show IsRangeIter _ _ (lo + ((0 : Nat) : Int) * 1) ((((hi - lo).toNat : Nat) : Int) - ((0 : Nat) : Int)) 1
    rw [e1, e2]
    exact Heap.get?_push_size _ rfl
  · have e : b = (s.heap.push { cls := .type "range", data := .fields #[.int lo t, .int hi u, .int 1 v] }).objs.size := by simpa using hb
    subst e
    exact I1.fpOk (Nat.le_refl _) (I1.hok.fresh (Nat.le_refl _))
def iRng1 (ta : TA) : TI := fun σ H R => ta σ H fun vs H1 => ∃ j : Int, vs = [.int j] ∧ -(2 ^ 62) ≤ j ∧ j < 2 ^ 62 ∧ R (Itr 0 j.toNat) H1
def iRng2 (ta : TA) : TI := fun σ H R => ta σ H fun vs H1 => ∃ i j : Int, vs = [.int i, .int j] ∧ (-(2 ^ 62) ≤ i ∧ i < 2 ^ 62 ∧ -(2 ^ 62) ≤ j ∧ j < 2 ^ 62) ∧ R (Itr i (j - i).toNat) H1
theorem pi_range1 {a : Expr} {ta : TA} {p pos : Pos} (hg : Gl X "range") (hm : X.mg "range" = none) (ha : PA X [a] ta) (hs : starEach [a] X.env = [(false, eval a X.env)] := by rfl) : PI X tg (.Call (.Name "range" p) [a] [] pos) (iRng1 ta) := by
  intro pins s σ H R I h
  refine Call_ (ld_blt I hg hm boot_range (PyProof.Rows.callWith_type1 (thn (ha pos pins s σ H _ I h) fun us s1 ⟨vs, H1, I1, r1, q1⟩ => ?_) hs rfl))
  obtain ⟨j, e, q1, q2, q⟩ := q1
  subst e
  cases r1 with
  | cons r rr =>
    cases rr
    obtain ⟨t, rfl⟩ := r
    exact call_range_1 (range_it I1 (by omega) (by omega) q1 q2 (by simpa using q))
theorem pi_range2 {a b : Expr} {ta : TA} {p pos : Pos} (hg : Gl X "range") (hm : X.mg "range" = none) (ha : PA X [a, b] ta) (hs : starEach [a, b] X.env = [(false, eval a X.env), (false, eval b X.env)] := by rfl) (hs2 : starEach [b] X.env = [(false, eval b X.env)] := by rfl) :
    PI X tg (.Call (.Name "range" p) [a, b] [] pos) (iRng2 ta) := by
  intro pins s σ H R I h
  refine Call_ (ld_blt I hg hm boot_range (PyProof.Rows.callWith_type1 (thn (ha pos pins s σ H _ I h) fun us s1 ⟨vs, H1, I1, r1, q1⟩ => ?_) (by rw [hs, hs2]) (by rw [hs2]; rfl)))
  obtain ⟨i, j, e, ⟨q1, q2, q3, q4⟩, q⟩ := q1
  subst e
  cases r1 with
  | cons r rr =>
    cases rr with
    | cons r' rr =>
      cases rr
      obtain ⟨t, rfl⟩ := r
      obtain ⟨t', rfl⟩ := r'
      exact call_range_2 (range_it I1 q1 q2 q3 q4 q)

/-! ### for -/
/-- W: the invariant by the turn and a measure; N: what the body is to reach -/
def tFor (wi : TI) (g : TG) (tb : TS) : TS := fun D σ H => wi σ H fun J H1 => ∃ W : Nat → Nat → St → Hp → Prop, (∃ m, W 0 m σ H1) ∧ ∀ i m σ H, W i m σ H →
  (J.stop i H ∧ D.nx σ H) ∨ (J.go i H ∧ ∃ N : St → Hp → Prop, (∀ σ' H', N σ' H' → ∃ m', m' < m ∧ W (i + 1) m' σ' H') ∧ ∀ x H', J.yld i H x H' → g x σ H' fun σ2 H2 => tb { D with nx := N, ct := N, bk := D.nx } σ2 H2)
/-- the records at fp as they stand -/
def pinsAt (fp : List Addr) (h : Heap) : List (Addr × Obj) := fp.filterMap fun b => (h.get? b).map fun o => (b, o)
theorem mem_pinsAt {fp : List Addr} {h : Heap} {b : Addr} {o : Obj} (hb : b ∈ fp) (e : h.get? b = some o) : (b, o) ∈ pinsAt fp h := List.mem_filterMap.mpr ⟨b, hb, by rw [e]; rfl⟩
theorem of_pinsAt {fp : List Addr} {h : Heap} {p : Addr × Obj} (hp : p ∈ pinsAt fp h) : p.1 ∈ fp ∧ h.get? p.1 = some p.2 := by
  obtain ⟨b, hb, e⟩ := List.mem_filterMap.mp hp
  cases q : h.get? b with
  | none => rw [q] at e; cases e
  | some o =>
    rw [q] at e
    have e' : (b, o) = p := Option.some.inj e
    subst e'
    exact ⟨hb, q⟩
theorem Inv.pinned {pins : List (Addr × Obj)} {σ : St} {H : Hp} {s : Shared} {fp : List Addr} (I : Inv X pins σ H s) (hf : ∀ b ∈ fp, FpOk X pins H b) (ho : ∀ b ∈ fp, ∃ o, s.heap.get? b = some o ∧ ∀ v, o.data ≠ .cell v) : Inv X (pins ++ pinsAt fp s.heap) σ H s :=
  I.pins_of fun p hp => (List.mem_append.mp hp).elim (fun z => I.pin p (List.mem_append_right _ z)) fun z => by
    obtain ⟨hb, e⟩ := of_pinsAt z
    obtain ⟨f0, f1, f2, _⟩ := hf p.1 hb
    obtain ⟨o, e', d⟩ := ho p.1 hb
    rw [e] at e'; cases e'
    exact ⟨e, f0, f1, f2, d⟩
theorem Inv.unpinned {pins pl : List (Addr × Obj)} {σ : St} {H : Hp} {s : Shared} (I : Inv X (pins ++ pl) σ H s) : Inv X pins σ H s := I.pins_of fun p hp => I.pin p (List.mem_append_right _ (List.mem_append_left _ hp))
theorem ps_for {iter : Expr} {body : List Stmt} {wi : TI} {g : TG} {tb : TS} {pos : Pos} (hp : PassesOwn (model X.prog X.w) X.A X.env X.xe) (hc : X.calm = true) (hi : PI X tg iter wi) (hg : PG X tg g) (hb : PSs X body tb)
    (hs : ∀ x, foldedSetIterable iter X.env x = pure x := by intro _; rfl) : PS X (.For tg iter body [] pos) (tFor wi g tb) := by
  intro pins s σ H D I h
  refine wpAny_For (thn (hi pins s σ H _ I h) fun v s1 h1 => thn h1 fun itv s2 h2 => ?_) hs
  obtain ⟨it, fp, tn, J, H2, e, I2, T, st2, f2, W, ⟨m0, w0⟩, turn⟩ := h2
  subst e
  -- what stays true of the iterator's objects through the loop
  have stat : ∀ {H' : Hp}, (∀ b ∈ fp, H' b = none) → ∀ b ∈ fp, FpOk X pins H' b := fun hn b hb => ⟨hn b hb, (f2 b hb).2⟩
  refine codeAny_forLoop_any (fun n s' => ∃ i σ' H', Inv X pins σ' H' s' ∧ tn i s'.heap ∧ (∀ b ∈ fp, H' b = none) ∧ W i n σ' H') ?_ m0 ⟨0, σ, H2, I2, st2, fun b hb => (f2 b hb).1, w0⟩
  rintro n s3 ⟨i, σ3, H3, I3, st3, fr3, w3⟩
  rcases turn i n σ3 H3 w3 with ⟨stop, qn⟩ | ⟨go, N, hN, step⟩
  · refine wpAny_passesOwn hp (thn (T.done X rfl rfl rfl hc i pins s3 σ3 H3 X.xe I3 (stat fr3) st3 stop) fun r s4 ⟨hr, I4⟩ => ?_)
    subst hr
    exact wpAny_execs_nil ⟨σ3, H3, I4, qn⟩
  · refine wpAny_passesOwn hp (thn (T.item X rfl rfl rfl hc i pins s3 σ3 H3 X.xe I3 (stat fr3) st3 go) fun r s4 ⟨u, hr, h4⟩ => ?_)
    subst hr
    refine wpAny_passesOwn hp (thn h4 fun _ s5 ⟨x, H5, I5, r5, y5, st5, fr5⟩ => ?_)
    have I5' := I5.pinned (stat fr5) (T.obj _ _ st5)
    refine wpAny_passesOwn hp (thn (hg _ s5 σ3 H5 x u _ I5' r5 (step x H5 y5)) fun _ s6 ⟨σ6, H6, I6, q6⟩ => ?_)
    refine wpAny_passesOwn hp (thn (hb _ s6 σ6 H6 _ I6 q6) fun f s7 q7 => ?_)
    have again : ∀ {σ7 : St} {H7 : Hp}, Inv X (pins ++ pinsAt fp s5.heap) σ7 H7 s7 → N σ7 H7 → ∃ m, m < n ∧ ∃ i σ' H', Inv X pins σ' H' s7 ∧ tn i s7.heap ∧ (∀ b ∈ fp, H' b = none) ∧ W i m σ' H' := fun {σ7 H7} I7 n7 => by
      obtain ⟨m', hm, w7⟩ := hN σ7 H7 n7
      refine ⟨m', hm, i + 1, σ7, H7, I7.unpinned, T.keep _ _ _ st5 fun b hb o e => (I7.pin (b, o) (List.mem_append_right _ (List.mem_append_right _ (mem_pinsAt hb e)))).1, fun b hb => ?_, w7⟩
      obtain ⟨o, e, d⟩ := T.obj _ _ st5 b hb
      exact (I7.pin (b, o) (List.mem_append_right _ (List.mem_append_right _ (mem_pinsAt hb e)))).2.1
    cases f with
    | next => obtain ⟨σ7, H7, I7, n7⟩ := q7; exact again I7 n7
    | cont => obtain ⟨σ7, H7, I7, n7⟩ := q7; exact again I7 n7
    | brk => obtain ⟨σ7, H7, I7, q7⟩ := q7; exact ⟨σ7, H7, I7.unpinned, q7⟩
    | ret v => obtain ⟨x7, σ7, H7, I7, r7, q7⟩ := q7; exact ⟨x7, σ7, H7, I7.unpinned, r7, q7⟩
end

/-! ### the forms one uses -/
/-- over a list that the body leaves as it is -/
theorem for_list {K : PySem.W.Frag} {a : Addr} {xs : List V} {g : TG} {tb : TS} {D : Ends} {σ : St} {H : Hp} (Pv : Nat → St → Hp → Prop) (h0 : Pv 0 σ H) (hl : ∀ i σ H, i ≤ xs.length → Pv i σ H → SqL K H a xs)
    (hs : ∀ i x σ H, xs[i]? = some x → Pv i σ H → g x σ H fun σ2 H2 => tb { D with nx := Pv (i + 1), ct := Pv (i + 1), bk := D.nx } σ2 H2) (hd : ∀ σ H, Pv xs.length σ H → D.nx σ H) :
    ∃ W : Nat → Nat → St → Hp → Prop, (∃ m, W 0 m σ H) ∧ ∀ i m σ H, W i m σ H →
      ((Itl K a).stop i H ∧ D.nx σ H) ∨ ((Itl K a).go i H ∧ ∃ N : St → Hp → Prop, (∀ σ' H', N σ' H' → ∃ m', m' < m ∧ W (i + 1) m' σ' H') ∧ ∀ x H', (Itl K a).yld i H x H' → g x σ H' fun σ2 H2 => tb { D with nx := N, ct := N, bk := D.nx } σ2 H2) := by
  refine ⟨fun i m σ H => m = xs.length - i ∧ i ≤ xs.length ∧ Pv i σ H, ⟨xs.length, by simp, Nat.zero_le _, h0⟩, ?_⟩
  rintro i m σ H ⟨rfl, hi, p⟩
  have q := hl i σ H hi p
  by_cases hlt : i < xs.length
  · refine .inr ⟨⟨xs, xs[i], q, by simp [hlt]⟩, Pv (i + 1), fun σ' H' p' => ⟨xs.length - (i + 1), by omega, rfl, hlt, p'⟩, fun x H' y => ?_⟩
    obtain ⟨e, y⟩ := y
    subst e
    exact hs i x σ _ (y xs q) p
  · have e : i = xs.length := by omega
    subst e
    exact .inl ⟨⟨xs, q, Nat.le_refl _⟩, hd σ H p⟩
theorem for_tup {K : PySem.W.Frag} {a : Addr} {xs : List V} {g : TG} {tb : TS} {D : Ends} {σ : St} {H : Hp} (Pv : Nat → St → Hp → Prop) (h0 : Pv 0 σ H) (hl : ∀ i σ H, i ≤ xs.length → Pv i σ H → SqT K H a xs)
    (hs : ∀ i x σ H, xs[i]? = some x → Pv i σ H → g x σ H fun σ2 H2 => tb { D with nx := Pv (i + 1), ct := Pv (i + 1), bk := D.nx } σ2 H2) (hd : ∀ σ H, Pv xs.length σ H → D.nx σ H) :
    ∃ W : Nat → Nat → St → Hp → Prop, (∃ m, W 0 m σ H) ∧ ∀ i m σ H, W i m σ H →
      ((Itt K a).stop i H ∧ D.nx σ H) ∨ ((Itt K a).go i H ∧ ∃ N : St → Hp → Prop, (∀ σ' H', N σ' H' → ∃ m', m' < m ∧ W (i + 1) m' σ' H') ∧ ∀ x H', (Itt K a).yld i H x H' → g x σ H' fun σ2 H2 => tb { D with nx := N, ct := N, bk := D.nx } σ2 H2) := by
  refine ⟨fun i m σ H => m = xs.length - i ∧ i ≤ xs.length ∧ Pv i σ H, ⟨xs.length, by simp, Nat.zero_le _, h0⟩, ?_⟩
  rintro i m σ H ⟨rfl, hi, p⟩
  have q := hl i σ H hi p
  by_cases hlt : i < xs.length
  · refine .inr ⟨⟨xs, xs[i], q, by simp [hlt]⟩, Pv (i + 1), fun σ' H' p' => ⟨xs.length - (i + 1), by omega, rfl, hlt, p'⟩, fun x H' y => ?_⟩
    obtain ⟨e, y⟩ := y
    subst e
    exact hs i x σ _ (y xs q) p
  · have e : i = xs.length := by omega
    subst e
    exact .inl ⟨⟨xs, q, Nat.le_refl _⟩, hd σ H p⟩
theorem for_range {lo : Int} {n : Nat} {g : TG} {tb : TS} {D : Ends} {σ : St} {H : Hp} (Pv : Nat → St → Hp → Prop) (h0 : Pv 0 σ H)
    (hs : ∀ i σ H, i < n → Pv i σ H → g (.int (lo + i)) σ H fun σ2 H2 => tb { D with nx := Pv (i + 1), ct := Pv (i + 1), bk := D.nx } σ2 H2) (hd : ∀ σ H, Pv n σ H → D.nx σ H) :
    ∃ W : Nat → Nat → St → Hp → Prop, (∃ m, W 0 m σ H) ∧ ∀ i m σ H, W i m σ H →
      ((Itr lo n).stop i H ∧ D.nx σ H) ∨ ((Itr lo n).go i H ∧ ∃ N : St → Hp → Prop, (∀ σ' H', N σ' H' → ∃ m', m' < m ∧ W (i + 1) m' σ' H') ∧ ∀ x H', (Itr lo n).yld i H x H' → g x σ H' fun σ2 H2 => tb { D with nx := N, ct := N, bk := D.nx } σ2 H2) := by
  refine ⟨fun i m σ H => m = n - i ∧ i ≤ n ∧ Pv i σ H, ⟨n, by simp, Nat.zero_le _, h0⟩, ?_⟩
  rintro i m σ H ⟨rfl, hi, p⟩
  by_cases hlt : i < n
  · refine .inr ⟨hlt, Pv (i + 1), fun σ' H' p' => ⟨n - (i + 1), by omega, rfl, hlt, p'⟩, fun x H' y => ?_⟩
    obtain ⟨e, y⟩ := y
    subst e y
    exact hs i σ _ hlt p
  · have e : i = n := by omega
    subst e
    exact .inl ⟨Nat.le_refl _, hd σ H p⟩
/-- while, by a word and a measure of the state -/
theorem while_by {c : TT} {tb : TS} {D : Ends} {σ : St} {H : Hp} (Pv : St → Hp → Prop) (μ : St → Hp → Nat) (h0 : Pv σ H)
    (hs : ∀ σ H, Pv σ H → c σ H fun b H1 => if b = true then tb { D with nx := fun σ' H' => Pv σ' H' ∧ μ σ' H' < μ σ H, ct := fun σ' H' => Pv σ' H' ∧ μ σ' H' < μ σ H, bk := D.nx } σ H1 else D.nx σ H1)
    (mono : ∀ σ H Q Q', (∀ b H1, Q b H1 → Q' b H1) → c σ H Q → c σ H Q') : tWhile c tb D σ H := by
  refine ⟨fun m σ H => m = μ σ H ∧ Pv σ H, ⟨_, rfl, h0⟩, ?_⟩
  rintro m σ H ⟨rfl, p⟩
  refine mono σ H _ _ (fun b H1 q => ?_) (hs σ H p)
  cases b with
  | true => exact ⟨_, fun σ' H' ⟨p', l⟩ => ⟨_, l, rfl, p'⟩, q⟩
  | false => exact q
end L2

namespace L2
open PySem PySem.Spec PyProof.Rows

abbrev R2 := V → V → Hp → VK → Prop
/-- a two-place operation on values: f is binaryOp op, inplaceOp op or compareOp op -/
def OpR (X : Cx) (f : Value → Value → Sem Value) (r : R2) : Prop :=
  ∀ (pins : List (Addr × Obj)) (s : Shared) (σ : St) (H : Hp) (x y : V) (v u : Value) (Q : VK), Inv X pins σ H s → RelV x v → RelV y u → r x y H Q →
    wpAny (model X.prog X.w) X.A (f v u) (EP X pins σ Q) X.xe s
/-- a one-place operation -/
def UnR (X : Cx) (f : Value → Sem Value) (r : V → Hp → VK → Prop) : Prop :=
  ∀ (pins : List (Addr × Obj)) (s : Shared) (σ : St) (H : Hp) (x : V) (v : Value) (Q : VK), Inv X pins σ H s → RelV x v → r x H Q →
    wpAny (model X.prog X.w) X.A (f v) (EP X pins σ Q) X.xe s
/-- a call of a value that is known (a builtin, a type) with values -/
def CallR (X : Cx) (f : Value) (r : List V → Hp → VK → Prop) : Prop :=
  ∀ (pins : List (Addr × Obj)) (s : Shared) (σ : St) (H : Hp) (xs : List V) (us : List Value) (Q : VK), Inv X pins σ H s → Vals xs us → r xs H Q →
    wpAny (model X.prog X.w) X.A (call f us) (EP X pins σ Q) X.xe s
/-- a value's truth -/
def TruR (X : Cx) (r : V → Hp → (Bool → Hp → Prop) → Prop) : Prop :=
  ∀ (pins : List (Addr × Obj)) (s : Shared) (σ : St) (H : Hp) (x : V) (v : Value) (Q : Bool → Hp → Prop), Inv X pins σ H s → RelV x v → r x H Q →
    wpAny (model X.prog X.w) X.A (truthy v) (TP X pins σ Q) X.xe s

def tOp (r : R2) (ta tb : TE) : TE := fun σ H Q => ta σ H fun x H1 => tb σ H1 fun y H2 => r x y H2 Q
def tUn (r : V → Hp → VK → Prop) (ta : TE) : TE := fun σ H Q => ta σ H fun x H1 => r x H1 Q
/-- ints in, under C, and a value out -/
def rI (C : Int → Int → Prop) (g : Int → Int → V) : R2 := fun x y H Q => ∃ i j, x = .int i ∧ y = .int j ∧ C i j ∧ Q (g i j) H
def rI0 (g : Int → Int → V) : R2 := fun x y H Q => ∃ i j, x = .int i ∧ y = .int j ∧ Q (g i j) H
def rU (g : Int → V) : V → Hp → VK → Prop := fun x H Q => ∃ i, x = .int i ∧ Q (g i) H

section
variable {X : Cx} {a b c : Expr} {ta tb tc : TE} {pos : Pos}

theorem binT (ha : PE X a ta) (hb : PE X b tb) {pins : List (Addr × Obj)} {s : Shared} {σ : St} {H : Hp} {R : V → V → Hp → Prop} (I : Inv X pins σ H s)
    (h : ta σ H fun x H1 => tb σ H1 fun y H2 => R x y H2) {Q : Value → Shared → Prop} {f : Value → Value → Sem Value}
    (hf : ∀ v u s2 x y H2, Inv X pins σ H2 s2 → RelV x v → RelV y u → R x y H2 → wpAny (model X.prog X.w) X.A (f v u) Q X.xe s2) :
    wpAny (model X.prog X.w) X.A (eval a X.env) (fun v s₁ => wpAny (model X.prog X.w) X.A (eval b X.env) (fun u s₂ => wpAny (model X.prog X.w) X.A (f v u) Q X.xe s₂) X.xe s₁) X.xe s := by
  refine thn (ha pins s σ H _ I h) fun v s1 ⟨x, H1, I1, r1, q1⟩ => ?_
  refine thn (hb pins s1 σ H1 _ I1 q1) fun u s2 ⟨y, H2, I2, r2, q2⟩ => ?_
  exact hf v u s2 x y H2 I2 r1 r2 q2

theorem pe_op {op : Operator} {r : R2} (ho : OpR X (binaryOp op) r) (ha : PE X a ta) (hb : PE X b tb) : PE X (.BinOp a op b pos) (tOp r ta tb) := by
  intro pins s σ H Q I h
  exact wpAny_BinOp (binT ha hb I h fun v u s2 x y H2 I2 rx ry q => ho pins s2 σ H2 x y v u Q I2 rx ry q)
theorem pe_un {op : UnaryOp} {r : V → Hp → VK → Prop} (ho : UnR X (unaryOp op) r) (ha : PE X a ta) : PE X (.UnaryOp op a pos) (tUn r ta) := by
  intro pins s σ H Q I h
  exact UnaryOp_ (thn (ha pins s σ H _ I h) fun v s1 ⟨x, H1, I1, r1, q1⟩ => ho pins s1 σ H1 x v Q I1 r1 q1)
/-- a op= e at a name: the name's slot i -/
theorem augR {op : Operator} {r : R2} (ho : OpR X (inplaceOp op) r) {pins : List (Addr × Obj)} {s : Shared} {σ : St} {H : Hp} {x y : V} {v u : Value} {Q : VK} (I : Inv X pins σ H s)
    (rx : RelV x v) (ry : RelV y u) (q : r x y H Q) : wpAny (model X.prog X.w) X.A (inplaceOp op v u) (EP X pins σ Q) X.xe s := ho pins s σ H x y v u Q I rx ry q

/-! ### ints -/
theorem opI {f : Value → Value → Sem Value} {C : Int → Int → Prop} {g : Int → Int → Int}
    (rule : ∀ (i j : Int) (t u : Tok) (s : Shared) (Q : Value → Shared → Prop) (E : Value → Shared → Prop), C i j → Q (.int (g i j) s.toks) { s with toks := s.toks + 1 } → wpAny (model X.prog X.w) X.A (f (.int i t) (.int j u)) Q E s) :
    OpR X f (rI C fun i j => .int (g i j)) := by
  intro pins s σ H x y v u Q I rx ry h
  obtain ⟨i, j, rfl, rfl, hc, q⟩ := h
  obtain ⟨t, rfl⟩ := rx
  obtain ⟨t', rfl⟩ := ry
  exact rule i j t t' s _ _ hc ⟨.int (g i j), H, I.tok _, ⟨_, rfl⟩, q⟩
theorem opI0 {f : Value → Value → Sem Value} {g : Int → Int → Int}
    (rule : ∀ (i j : Int) (t u : Tok) (s : Shared) (Q : Value → Shared → Prop) (E : Value → Shared → Prop), Q (.int (g i j) s.toks) { s with toks := s.toks + 1 } → wpAny (model X.prog X.w) X.A (f (.int i t) (.int j u)) Q E s) :
    OpR X f (rI0 fun i j => .int (g i j)) := by
  intro pins s σ H x y v u Q I rx ry h
  obtain ⟨i, j, rfl, rfl, q⟩ := h
  obtain ⟨t, rfl⟩ := rx
  obtain ⟨t', rfl⟩ := ry
  exact rule i j t t' s _ _ ⟨.int (g i j), H, I.tok _, ⟨_, rfl⟩, q⟩
theorem opB0 {f : Value → Value → Sem Value} {g : Int → Int → Bool}
    (rule : ∀ (i j : Int) (t u : Tok) (s : Shared) (Q : Value → Shared → Prop) (E : Value → Shared → Prop), Q (.bool (g i j)) s → wpAny (model X.prog X.w) X.A (f (.int i t) (.int j u)) Q E s) :
    OpR X f (rI0 fun i j => .bl (g i j)) := by
  intro pins s σ H x y v u Q I rx ry h
  obtain ⟨i, j, rfl, rfl, q⟩ := h
  obtain ⟨t, rfl⟩ := rx
  obtain ⟨t', rfl⟩ := ry
  exact rule i j t t' s _ _ ⟨.bl (g i j), H, I, rfl, q⟩

def CDiv (i j : Int) : Prop := 0 < j ∧ j < 1073741824
def CDivN (i j : Int) : Prop := j ≠ 0 ∧ j.natAbs < 1073741824
def CPow (i j : Int) : Prop := 0 ≤ j ∧ j ≤ 1000000 ∧ i.natAbs < 2 ^ 64
def CMul (i j : Int) : Prop := (-(2 ^ 64) < i ∧ i < 2 ^ 64) ∨ (-(2 ^ 64) < j ∧ j < 2 ^ 64)
theorem CMul.ok {i j : Int} (h : CMul i j) : IntMulOk i j := by
  rcases h with ⟨h1, h2⟩ | ⟨h1, h2⟩
  · exact .of_left (intBits_le_64 h1 h2)
  · exact .of_right (intBits_le_64 h1 h2)
theorem two_pow_nn (k : Nat) : (0 : Int) ≤ 2 ^ k := by
  rw [two_pow_cast]
  exact Int.natCast_nonneg _

theorem op_add : OpR X (binaryOp .Add) (rI0 fun i j => .int (i + j)) := opI0 fun _ _ _ _ _ _ _ q => add_int q
theorem op_sub : OpR X (binaryOp .Sub) (rI0 fun i j => .int (i - j)) := opI0 fun _ _ _ _ _ _ _ q => sub_int q
theorem op_mul : OpR X (binaryOp .Mult) (rI CMul fun i j => .int (i * j)) := opI fun _ _ _ _ _ _ _ hc q => mul_int q hc.ok
/-- // by a positive divisor -/
theorem op_fdiv : OpR X (binaryOp .FloorDiv) (rI CDiv fun i j => .int (i / j)) := opI fun i j _ _ _ _ _ hc q => by
  have h1 : (0 : Int) < j := hc.1
  have h2 : j < 1073741824 := hc.2
  exact floordiv_int (by omega) (by rw [Int.fdiv_eq_ediv_of_nonneg i (by omega)]; exact q) (.inl (PyProof.noPylong_small (by omega)))
theorem op_fdivN : OpR X (binaryOp .FloorDiv) (rI CDivN fun i j => .int (i.fdiv j)) := opI fun _ _ _ _ _ _ _ hc q => floordiv_int hc.1 q (.inl (PyProof.noPylong_small hc.2))
/-- % by a positive divisor of any size -/
theorem op_mod : OpR X (binaryOp .Mod) (rI (fun _ j => 0 < j) fun i j => .int (i % j)) := opI fun i j _ _ _ _ _ hc q => by
  have h1 : (0 : Int) < j := hc
  exact mod_int' (by omega) (by rw [Int.fmod_eq_emod_of_nonneg i (by omega)]; exact q)
theorem op_modN : OpR X (binaryOp .Mod) (rI (fun _ j => j ≠ 0) fun i j => .int (i.fmod j)) := opI fun _ _ _ _ _ _ _ hc q => mod_int' hc q
theorem op_pow : OpR X (binaryOp .Pow) (rI CPow fun i j => .int (i ^ j.toNat)) := opI fun _ _ _ _ _ _ _ hc q => pow_int_small hc.1 hc.2.1 hc.2.2 q
theorem op_shl : OpR X (binaryOp .LShift) (rI CPow fun i j => .int (i * 2 ^ j.toNat)) := opI fun _ _ _ _ _ _ _ hc q => lshift_int_small hc.1 hc.2.1 hc.2.2 q
theorem op_shr : OpR X (binaryOp .RShift) (rI (fun _ j => 0 ≤ j) fun i j => .int (i / 2 ^ j.toNat)) := opI fun i j _ _ _ _ _ hc q =>
  rshift_int hc (by rw [Int.fdiv_eq_ediv_of_nonneg i (two_pow_nn _)]; exact q)
theorem op_and : OpR X (binaryOp .BitAnd) (rI0 fun i j => .int (Builtin.bitAnd i j)) := opI0 fun _ _ _ _ _ _ _ q => and_int q
theorem op_or : OpR X (binaryOp .BitOr) (rI0 fun i j => .int (Builtin.bitOr i j)) := opI0 fun _ _ _ _ _ _ _ q => or_int q
theorem op_xor : OpR X (binaryOp .BitXor) (rI0 fun i j => .int (Builtin.bitXor i j)) := opI0 fun _ _ _ _ _ _ _ q => xor_int q

theorem iop_add : OpR X (inplaceOp .Add) (rI0 fun i j => .int (i + j)) := opI0 fun _ _ _ _ _ _ _ q => iadd_int q
theorem iop_sub : OpR X (inplaceOp .Sub) (rI0 fun i j => .int (i - j)) := opI0 fun _ _ _ _ _ _ _ q => isub_int q
theorem iop_mul : OpR X (inplaceOp .Mult) (rI CMul fun i j => .int (i * j)) := opI fun _ _ _ _ _ _ _ hc q => imul_int q hc.ok
theorem iop_fdiv : OpR X (inplaceOp .FloorDiv) (rI CDiv fun i j => .int (i / j)) := opI fun i j _ _ _ _ _ hc q => by
  have h1 : (0 : Int) < j := hc.1
  have h2 : j < 1073741824 := hc.2
  exact ifloordiv_int (by omega) (by rw [Int.fdiv_eq_ediv_of_nonneg i (by omega)]; exact q) (.inl (PyProof.noPylong_small (by omega)))
theorem iop_mod : OpR X (inplaceOp .Mod) (rI (fun _ j => 0 < j) fun i j => .int (i % j)) := opI fun i j _ _ _ _ _ hc q => by
  have h1 : (0 : Int) < j := hc
  exact imod_int (by omega) (by rw [Int.fmod_eq_emod_of_nonneg i (by omega)]; exact q)
theorem iop_shl : OpR X (inplaceOp .LShift) (rI CPow fun i j => .int (i * 2 ^ j.toNat)) := opI fun _ _ _ _ _ _ _ hc q => ilshift_int_small hc.1 hc.2.1 hc.2.2 q
theorem iop_shr : OpR X (inplaceOp .RShift) (rI (fun _ j => 0 ≤ j) fun i j => .int (i / 2 ^ j.toNat)) := opI fun i j _ _ _ _ _ hc q =>
  irshift_int hc (by rw [Int.fdiv_eq_ediv_of_nonneg i (two_pow_nn _)]; exact q)
theorem iop_and : OpR X (inplaceOp .BitAnd) (rI0 fun i j => .int (Builtin.bitAnd i j)) := opI0 fun _ _ _ _ _ _ _ q => iand_int q
theorem iop_or : OpR X (inplaceOp .BitOr) (rI0 fun i j => .int (Builtin.bitOr i j)) := opI0 fun _ _ _ _ _ _ _ q => ior_int q
theorem iop_xor : OpR X (inplaceOp .BitXor) (rI0 fun i j => .int (Builtin.bitXor i j)) := opI0 fun _ _ _ _ _ _ _ q => ixor_int q

theorem unI {f : Value → Sem Value} {g : Int → Int}
    (rule : ∀ (i : Int) (t : Tok) (s : Shared) (Q : Value → Shared → Prop) (E : Value → Shared → Prop), Q (.int (g i) s.toks) { s with toks := s.toks + 1 } → wpAny (model X.prog X.w) X.A (f (.int i t)) Q E s) :
    UnR X f (rU fun i => .int (g i)) := by
  intro pins s σ H x v Q I rx h
  obtain ⟨i, rfl, q⟩ := h
  obtain ⟨t, rfl⟩ := rx
  exact rule i t s _ _ ⟨.int (g i), H, I.tok _, ⟨_, rfl⟩, q⟩
theorem un_neg : UnR X (unaryOp .USub) (rU fun i => .int (-i)) := unI fun _ _ _ _ _ q => neg_int q
theorem un_inv : UnR X (unaryOp .Invert) (rU fun i => .int (Builtin.bitNot i)) := unI fun _ _ _ _ _ q => invert_int q

/-! ### bools among ints: n += (a < b) -/
theorem op_add_ib : OpR X (binaryOp .Add) (fun x y H Q => ∃ i k, x = .int i ∧ y = .bl k ∧ Q (.int (i + b2i k)) H) := by
  intro pins s σ H x y v u Q I rx ry h
  obtain ⟨i, k, rfl, rfl, q⟩ := h
  obtain ⟨t, rfl⟩ := rx
  cases ry
  exact add_int_bool ⟨.int (i + b2i k), H, I.tok _, ⟨_, rfl⟩, q⟩
end

/-! ### comparisons -/
/-- the scalars that == tells apart as data does -/
def scal : V → V → Bool
  | .non, .non => true | .non, .int _ => true | .int _, .non => true | .non, .bl _ => true | .bl _, .non => true | .non, .str _ => true | .str _, .non => true
  | .int _, .int _ => true | .bl _, .bl _ => true | .str _, .str _ => true | .byt _, .byt _ => true
  | .int _, .str _ => true | .str _, .int _ => true | .bl _, .str _ => true | .str _, .bl _ => true
  | _, _ => false
def rEq : R2 := fun x y H Q => scal x y = true ∧ Q (.bl (decide (x = y))) H
def rNe : R2 := fun x y H Q => scal x y = true ∧ Q (.bl (!decide (x = y))) H

theorem dec_int {i j : Int} : decide (V.int i = V.int j) = (i == j) := by
  rw [Bool.eq_iff_iff]
  simp
theorem dec_bl {i j : Bool} : decide (V.bl i = V.bl j) = (i == j) := by
  rw [Bool.eq_iff_iff]
  simp
theorem dec_str {i j : Str} : decide (V.str i = V.str j) = (i == j) := by
  rw [Bool.eq_iff_iff]
  simp
theorem dec_byt {i j : Array UInt8} : decide (V.byt i = V.byt j) = (i.toList == j.toList) := by
  rw [Bool.eq_iff_iff]
  cases i
  cases j
  simp

section
variable {X : Cx} {a b c : Expr} {ta tb tc : TE} {pos : Pos}
theorem fin_bl {pins : List (Addr × Obj)} {σ : St} {H : Hp} {s : Shared} {Q : VK} {k k' : Bool} (I : Inv X pins σ H s) (q : Q (.bl k) H) (e : k = k') : EP X pins σ Q (.bool k') s := by
  subst e
  exact ⟨.bl k, H, I, rfl, q⟩
theorem op_eq : OpR X (compareOp .Eq) rEq := by
  intro pins s σ H x y v u Q I rx ry h
  obtain ⟨hs, q⟩ := h
  cases x with
  | non =>
    cases rx
    cases y with
    | non => cases ry; exact PySem.EqNone.eq_none_none (fin_bl I q (by simp))
    | bl j => cases ry; exact PySem.EqNone.eq_none_bool (fin_bl I q (by simp))
    | int j => obtain ⟨t', rfl⟩ := ry; exact PySem.EqNone.eq_none_int (fin_bl I q (by simp))
    | str j => obtain ⟨t', rfl⟩ := ry; exact PySem.EqNone.eq_none_str (fin_bl I q (by simp))
    | _ => exact absurd (show false = true from hs) Bool.false_ne_true
  | bl i =>
    cases rx
    cases y with
    | non => cases ry; exact PySem.EqNone.eq_bool_none (fin_bl I q (by simp))
    | bl j => cases ry; exact eq_bool (fin_bl I q dec_bl)
    | str j => obtain ⟨t', rfl⟩ := ry; exact PySem.EqMixed.eq_bool_str (fin_bl I q (by simp))
    | _ => exact absurd (show false = true from hs) Bool.false_ne_true
  | int i =>
    obtain ⟨t, rfl⟩ := rx
    cases y with
    | non => cases ry; exact PySem.EqNone.eq_int_none (fin_bl I q (by simp))
    | int j => obtain ⟨t', rfl⟩ := ry; exact eq_int (fin_bl I q dec_int)
    | str j => obtain ⟨t', rfl⟩ := ry; exact PySem.EqMixed.eq_int_str (fin_bl I q (by simp))
    | _ => exact absurd (show false = true from hs) Bool.false_ne_true
  | str i =>
    obtain ⟨t, rfl⟩ := rx
    cases y with
    | non => cases ry; exact PySem.EqNone.eq_str_none (fin_bl I q (by simp))
    | bl j => cases ry; exact PySem.EqMixed.eq_str_bool (fin_bl I q (by simp))
    | int j => obtain ⟨t', rfl⟩ := ry; exact PySem.EqMixed.eq_str_int (fin_bl I q (by simp))
    | str j => obtain ⟨t', rfl⟩ := ry; exact eq_str (fin_bl I q dec_str)
    | _ => exact absurd (show false = true from hs) Bool.false_ne_true
  | byt i =>
    obtain ⟨t, rfl⟩ := rx
    cases y with
    | byt j => obtain ⟨t', rfl⟩ := ry; exact PySem.W.eq_bytes (fin_bl I q dec_byt)
    | _ => exact absurd (show false = true from hs) Bool.false_ne_true
  | _ => cases y <;> exact absurd (show false = true from hs) Bool.false_ne_true
theorem op_ne : OpR X (compareOp .NotEq) rNe := by
  intro pins s σ H x y v u Q I rx ry h
  obtain ⟨hs, q⟩ := h
  cases x with
  | non =>
    cases rx
    cases y with
    | non => cases ry; exact PySem.EqNone.ne_none_none (fin_bl I q (by simp))
    | bl j => cases ry; exact PySem.EqNone.ne_none_bool (fin_bl I q (by simp))
    | int j => obtain ⟨t', rfl⟩ := ry; exact PySem.EqNone.ne_none_int (fin_bl I q (by simp))
    | str j => obtain ⟨t', rfl⟩ := ry; exact PySem.EqNone.ne_none_str (fin_bl I q (by simp))
    | _ => exact absurd (show false = true from hs) Bool.false_ne_true
  | bl i =>
    cases rx
    cases y with
    | non => cases ry; exact PySem.EqNone.ne_bool_none (fin_bl I q (by simp))
    | bl j => cases ry; exact ne_bool (fin_bl I q (congrArg not dec_bl))
    | str j => obtain ⟨t', rfl⟩ := ry; exact PySem.EqMixed.ne_bool_str (fin_bl I q (by simp))
    | _ => exact absurd (show false = true from hs) Bool.false_ne_true
  | int i =>
    obtain ⟨t, rfl⟩ := rx
    cases y with
    | non => cases ry; exact PySem.EqNone.ne_int_none (fin_bl I q (by simp))
    | int j => obtain ⟨t', rfl⟩ := ry; exact ne_int (fin_bl I q (congrArg not dec_int))
    | str j => obtain ⟨t', rfl⟩ := ry; exact PySem.EqMixed.ne_int_str (fin_bl I q (by simp))
    | _ => exact absurd (show false = true from hs) Bool.false_ne_true
  | str i =>
    obtain ⟨t, rfl⟩ := rx
    cases y with
    | non => cases ry; exact PySem.EqNone.ne_str_none (fin_bl I q (by simp))
    | bl j => cases ry; exact PySem.EqMixed.ne_str_bool (fin_bl I q (by simp))
    | int j => obtain ⟨t', rfl⟩ := ry; exact PySem.EqMixed.ne_str_int (fin_bl I q (by simp))
    | str j => obtain ⟨t', rfl⟩ := ry; exact ne_str (fin_bl I q (congrArg not dec_str))
    | _ => exact absurd (show false = true from hs) Bool.false_ne_true
  | byt i =>
    obtain ⟨t, rfl⟩ := rx
    cases y with
    | byt j => obtain ⟨t', rfl⟩ := ry; exact PySem.W.ne_bytes (fin_bl I q (congrArg not dec_byt))
    | _ => exact absurd (show false = true from hs) Bool.false_ne_true
  | _ => cases y <;> exact absurd (show false = true from hs) Bool.false_ne_true

theorem op_lt : OpR X (compareOp .Lt) (rI0 fun i j => .bl (decide (i < j))) := opB0 fun _ _ _ _ _ _ _ q => lt_int q
theorem op_le : OpR X (compareOp .LtE) (rI0 fun i j => .bl (decide (i ≤ j))) := opB0 fun _ _ _ _ _ _ _ q => le_int q
theorem op_gt : OpR X (compareOp .Gt) (rI0 fun i j => .bl (decide (j < i))) := opB0 fun _ _ _ _ _ _ _ q => gt_int q
theorem op_ge : OpR X (compareOp .GtE) (rI0 fun i j => .bl (decide (j ≤ i))) := opB0 fun _ _ _ _ _ _ _ q => ge_int q
theorem op_lt_str : OpR X (compareOp .Lt) (fun x y H Q => ∃ i j, x = .str i ∧ y = .str j ∧ Q (.bl (decide (i.cps.toList < j.cps.toList))) H) := by
  intro pins s σ H x y v u Q I rx ry h
  obtain ⟨i, j, rfl, rfl, q⟩ := h
  obtain ⟨t, rfl⟩ := rx
  obtain ⟨t', rfl⟩ := ry
  exact lt_str (fin_bl I q rfl)
/-- the one string within the other -/
theorem op_in_str : OpR X (compareOp .In) (fun x y H Q => ∃ i j, x = .str i ∧ y = .str j ∧ Q (.bl (!(Builtin.Str.occurrences j i 0 j.length 1).isEmpty)) H) := by
  intro pins s σ H x y v u Q I rx ry h
  obtain ⟨i, j, rfl, rfl, q⟩ := h
  obtain ⟨t, rfl⟩ := rx
  obtain ⟨t', rfl⟩ := ry
  exact in_str (fin_bl I q rfl)

/-- is None, is not None: the right side a value none -/
theorem op_isN : OpR X (compareOp .Is) (fun x y H Q => y = .non ∧ Q (.bl (decide (x = .non))) H) := by
  intro pins s σ H x y v u Q I rx ry h
  obtain ⟨rfl, q⟩ := h
  cases ry
  refine is_none_gen (fin_bl I q ?_)
  cases x <;> first
    | (cases rx; rfl)
    | (obtain ⟨t, rfl⟩ := rx; rfl)
theorem op_notN : OpR X (compareOp .IsNot) (fun x y H Q => y = .non ∧ Q (.bl (!decide (x = .non))) H) := by
  intro pins s σ H x y v u Q I rx ry h
  obtain ⟨rfl, q⟩ := h
  cases ry
  refine isnot_none_gen (fin_bl I q ?_)
  cases x <;> first
    | (cases rx; rfl)
    | (obtain ⟨t, rfl⟩ := rx; rfl)

theorem op_notin_str : OpR X (compareOp .NotIn) (fun x y H Q => ∃ i j, x = .str i ∧ y = .str j ∧ Q (.bl (!(!(Builtin.Str.occurrences j i 0 j.length 1).isEmpty))) H) := by
  intro pins s σ H x y v u Q I rx ry h
  obtain ⟨i, j, rfl, rfl, q⟩ := h
  obtain ⟨t, rfl⟩ := rx
  obtain ⟨t', rfl⟩ := ry
  exact notIn_str (fin_bl I q rfl)
/-- is, is not of two objects that are tracked lists or instances -/
def isObj : HO → Bool
  | .lst _ => true
  | .ins _ _ _ => true
  | _ => false
theorem obj_there {pins : List (Addr × Obj)} {s : Shared} {σ : St} {H : Hp} {a : Addr} {o : HO} (I : Inv X pins σ H s) (h : H a = some o) (p : isObj o = true) : ∃ ob, s.heap.get? a = some ob ∧ ob.cls ≠ .type "tuple" := by
  cases o with
  | lst xs =>
    obtain ⟨_, its, n, _, e⟩ : xs.length ≤ sizeLine ∧ ∃ (its : List Value) (n : Nat), Vals xs its ∧ s.heap.get? a = some { cls := .type "list", data := .seq its.toArray n } := I.hok a _ h
    exact ⟨_, e, (by show Value.type "list" ≠ .type "tuple"; decide +kernel)⟩
  | ins C dx fs =>
    have x := I.hok a _ h
    obtain ⟨_, _, _, e, _⟩ := x
    exact ⟨_, e, (by show Value.ref C ≠ .type "tuple"; exact fun z => by cases z)⟩
  | _ => exact absurd (show false = true from p) Bool.false_ne_true
theorem op_is_ref : OpR X (compareOp .Is) (fun x y H Q => ∃ a b oa ob, x = .ref a ∧ y = .ref b ∧ H a = some oa ∧ isObj oa = true ∧ H b = some ob ∧ isObj ob = true ∧ Q (.bl (decide (a = b))) H) := by
  intro pins s σ H x y v u Q I rx ry h
  obtain ⟨a, b, oa, ob, rfl, rfl, ha, pa, hb, pb, q⟩ := h
  cases rx
  cases ry
  obtain ⟨o1, e1, n1⟩ := obj_there I ha pa
  obtain ⟨o2, e2, _⟩ := obj_there I hb pb
  by_cases z : a = b
  · subst z
    exact wpAny_is_ref_self (fin_bl I q (by simp))
  · exact wpAny_is_ref_other z e1 e2 n1 (fin_bl I q (by simp [z]))
theorem op_isnot_ref : OpR X (compareOp .IsNot) (fun x y H Q => ∃ a b oa ob, x = .ref a ∧ y = .ref b ∧ H a = some oa ∧ isObj oa = true ∧ H b = some ob ∧ isObj ob = true ∧ Q (.bl (!decide (a = b))) H) := by
  intro pins s σ H x y v u Q I rx ry h
  obtain ⟨a, b, oa, ob, rfl, rfl, ha, pa, hb, pb, q⟩ := h
  cases rx
  cases ry
  obtain ⟨o1, e1, n1⟩ := obj_there I ha pa
  obtain ⟨o2, e2, _⟩ := obj_there I hb pb
  by_cases z : a = b
  · subst z
    exact wpAny_isNot_ref_self (fin_bl I q (by simp))
  · exact wpAny_isNot_ref_other z e1 e2 n1 (fin_bl I q (by simp [z]))

/-- two rules for one operation: by cases -/
theorem OpR.or {f : Value → Value → Sem Value} {r r' : R2} (h : OpR X f r) (h' : OpR X f r') : OpR X f (fun x y H Q => r x y H Q ∨ r' x y H Q) := by
  intro pins s σ H x y v u Q I rx ry q
  rcases q with q | q
  · exact h pins s σ H x y v u Q I rx ry q
  · exact h' pins s σ H x y v u Q I rx ry q

theorem nomark (b : Expr) {op : CmpOp} (h : op ≠ .In := by decide) (h2 : op ≠ .NotIn := by decide) : behindInMarks op b = false := by
  have e1 : (op == CmpOp.In) = false := by cases op <;> first | rfl | exact absurd rfl h
  have e2 : (op == CmpOp.NotIn) = false := by cases op <;> first | rfl | exact absurd rfl h2
  cases b <;> simp [behindInMarks, e1, e2]
/-- a comparison as a value; hm: nomark b, or (for in, not in) by with_unfolding_all rfl -/
theorem pe_cmpR {op : CmpOp} {r : R2} (ho : OpR X (compareOp op) r) (ha : PE X a ta) (hb : PE X b tb) (hm : behindInMarks op b = false) : PE X (.Compare a [op] [b] pos) (tOp r ta tb) := by
  intro pins s σ H Q I h
  exact wpAny_Compare1 (binT ha hb I h fun v u s2 x y H2 I2 rx ry q => ho pins s2 σ H2 x y v u Q I2 rx ry q) hm
/-- a reading of a value as a test -/
def tTest (t : TE) : TT := fun σ H Q => t σ H fun x H' => ∃ k, x = .bl k ∧ Q k H'
theorem pt_cmpR {op : CmpOp} {r : R2} (ho : OpR X (compareOp op) r) (ha : PE X a ta) (hb : PE X b tb) (hm : behindInMarks op b = false) : PT X (.Compare a [op] [b] pos) (tTest (tOp r ta tb)) := by
  intro pins s σ H Q I h
  refine wpAny_isTrue_Compare1 (thn (ha pins s σ H _ I h) fun v s1 ⟨x, H1, I1, r1, q1⟩ => thn (hb pins s1 σ H1 _ I1 q1) fun u s2 ⟨y, H2, I2, r2, q2⟩ =>
    thn (ho pins s2 σ H2 x y v u _ I2 r1 r2 q2) fun c s3 ⟨z, H3, I3, r3, k, e, q3⟩ => ?_) hm
  subst e
  cases r3
  exact wpAny_truthy_bool ⟨H3, I3, q3⟩
/-- a op1 b op2 c -/
def tChain (r r' : R2) (ta tb tc : TE) : TE := fun σ H Q => ta σ H fun x H1 => tb σ H1 fun y H2 => r x y H2 fun z H3 => ∃ k, z = .bl k ∧
  (if k = true then tc σ H3 fun w' H4 => r' y w' H4 Q else Q (.bl false) H3)
theorem pe_chain {op op' : CmpOp} {r r' : R2} (ho : OpR X (compareOp op) r) (ho' : OpR X (compareOp op') r') (ha : PE X a ta) (hb : PE X b tb) (hc : PE X c tc)
    (hm : lastMarks [op, op'] [b, c] = false := by with_unfolding_all rfl) : PE X (.Compare a [op, op'] [b, c] pos) (tChain r r' ta tb tc) := by
  intro pins s σ H Q I h
  refine Compare_chain (thn (ha pins s σ H _ I h) fun v s1 ⟨x, H1, I1, r1, q1⟩ => chain_link (thn (hb pins s1 σ H1 _ I1 q1) fun u s2 ⟨y, H2, I2, r2, q2⟩ =>
    thn (ho pins s2 σ H2 x y v u _ I2 r1 r2 q2) fun d s3 ⟨z, H3, I3, r3, k, e, q3⟩ => ?_)) hm
  subst e
  cases r3
  refine wpAny_truthy_bool ?_
  cases k with
  | false => exact ite_ff ⟨.bl false, H3, I3, rfl, q3⟩
  | true => exact ite_tt (chain_last (thn (hc pins s3 σ H3 _ I3 q3) fun w' s4 ⟨z', H4, I4, r4, q4⟩ => ho' pins s4 σ H4 y z' u w' Q I4 r2 r4 q4))
theorem pt_chain {op op' : CmpOp} {r r' : R2} (ho : OpR X (compareOp op) r) (ho' : OpR X (compareOp op') r') (ha : PE X a ta) (hb : PE X b tb) (hc : PE X c tc)
    (hm : lastMarks [op, op'] [b, c] = false := by with_unfolding_all rfl) : PT X (.Compare a [op, op'] [b, c] pos) (tTest (tChain r r' ta tb tc)) := by
  intro pins s σ H Q I h
  refine isTrue_chain (thn (ha pins s σ H _ I h) fun v s1 ⟨x, H1, I1, r1, q1⟩ => test_link (thn (hb pins s1 σ H1 _ I1 q1) fun u s2 ⟨y, H2, I2, r2, q2⟩ =>
    thn (ho pins s2 σ H2 x y v u _ I2 r1 r2 q2) fun d s3 ⟨z, H3, I3, r3, k, e, q3⟩ => ?_)) hm
  subst e
  cases r3
  refine wpAny_truthy_bool ?_
  cases k with
  | false =>
    obtain ⟨k', e', q'⟩ := q3
    cases e'
    exact ite_ff ⟨H3, I3, q'⟩
  | true =>
    refine ite_tt (test_last (thn (hc pins s3 σ H3 _ I3 q3) fun w' s4 ⟨z', H4, I4, r4, q4⟩ => thn (ho' pins s4 σ H4 y z' u w' _ I4 r2 r4 q4) fun d' s5 ⟨z2, H5, I5, r5, k2, e2, q5⟩ => ?_))
    subst e2
    cases r5
    exact wpAny_truthy_bool ⟨H5, I5, q5⟩

/-! ### truth -/
/-- a value's truth by the abstract heap -/
def TruV (K : PySem.W.Frag) (x : V) (H : Hp) (k : Bool) : Prop :=
  match x with
  | .non => k = false
  | .bl b => k = b
  | .int i => k = (i != 0)
  | .str y => y.length ≤ sizeLine ∧ k = ((y.length : Int) != 0)
  | .byt y => y.size ≤ sizeLine ∧ k = ((y.size : Int) != 0)
  | .ref p => (∃ xs, SqL K H p xs ∧ k = !xs.isEmpty) ∨ (∃ xs, SqT K H p xs ∧ k = !xs.isEmpty) ∨ ∃ kvs, H p = some (.dK kvs) ∧ k = !kvs.isEmpty
  | _ => False
theorem isEmpty_kv {κ : Type} {kvs : List (κ × V)} {vs : List (κ × Value)} (r : KV kvs vs) : (!vs.isEmpty) = !kvs.isEmpty := by
  cases r <;> rfl
theorem isEmpty_of {xs : List V} {its : List Value} (r : Vals xs its) : (!its.toArray.isEmpty) = !xs.isEmpty := by
  cases r <;> simp
theorem line63 : (sizeLine : Nat) < 2 ^ 63 := by rw [sizeLine_eq]; decide
theorem tru_ok : TruR X (fun x H Q => ∃ k, TruV X.K x H k ∧ Q k H) := by
  intro pins s σ H x v Q I rx h
  obtain ⟨k, e, q⟩ := h
  have hl := line63
  have hs : sizeLine = 16777216 := sizeLine_eq
  cases x with
  | non =>
    cases rx
    have e' : k = false := e
    subst e'
    exact truthy_none ⟨H, I, q⟩
  | bl b =>
    cases rx
    have e' : k = b := e
    subst e'
    exact wpAny_truthy_bool ⟨H, I, q⟩
  | int i =>
    obtain ⟨t, rfl⟩ := rx
    have e' : k = (i != 0) := e
    subst e'
    exact PySem.P.truthy_int ⟨H, I, q⟩
  | str y =>
    obtain ⟨t, rfl⟩ := rx
    obtain ⟨hy, e'⟩ : y.length ≤ sizeLine ∧ k = ((y.length : Int) != 0) := e
    subst e'
    exact PySem.P.truthy_str (by omega) ⟨H, I.tok _, q⟩
  | byt y =>
    obtain ⟨t, rfl⟩ := rx
    obtain ⟨hy, e'⟩ : y.size ≤ sizeLine ∧ k = ((y.size : Int) != 0) := e
    subst e'
    exact PySem.W.truthy_bytes (by omega) ⟨H, I.tok _, q⟩
  | ref p =>
    cases rx
    have e' : (∃ xs, SqL X.K H p xs ∧ k = !xs.isEmpty) ∨ (∃ xs, SqT X.K H p xs ∧ k = !xs.isEmpty) ∨ ∃ kvs, H p = some (.dK kvs) ∧ k = !kvs.isEmpty := e
    rcases e' with ⟨xs, hx, e'⟩ | ⟨xs, hx, e'⟩ | ⟨kvs, hx, e'⟩
    · subst e'
      obtain ⟨its, r, pl, hz⟩ := I.list hx
      have hlen := r.length
      exact wpAny_truthy_list pl.isList (by simp only [List.size_toArray]; omega) ⟨H, I.tok _, by rw [isEmpty_of r]; exact q⟩
    · subst e'
      obtain ⟨its, r, pl, hz⟩ := I.tuple hx
      have hlen := r.length
      exact truthy_tuple pl (by simp only [List.size_toArray]; omega) ⟨H, I.tok _, by rw [isEmpty_of r]; exact q⟩
    · subst e'
      obtain ⟨hz, hS, vs, r, m⟩ : kvs.length ≤ sizeLine ∧ (p == sysModules) = false ∧ ∃ vs, KV kvs vs ∧ s.heap.DictOf (mixKind X.prog X.w) p vs := I.hok p _ hx
      have hlen : kvs.length = vs.length := Paired.length r
      exact wpAny_truthy_dict hS m (by omega) ⟨H, I.tok _, by rw [isEmpty_kv r]; exact q⟩
  | _ => exact (show False from e).elim
/-- any expression whose test is its value's truth (a name, a call, a subscript, a field ..: he by fun _ => rfl) -/
theorem pt_truth (ha : PE X a ta) (he : ∀ whole, isTrue a X.env whole = (do let v ← whole; standAt a.pos; holding [v] (truthy v))) :
    PT X a (fun σ H Q => ta σ H fun x H' => ∃ k, TruV X.K x H' k ∧ Q k H') := by
  intro pins s σ H Q I h
  exact isTrue_plain (thn (ha pins s σ H _ I h) fun v s1 ⟨x, H1, I1, r1, q1⟩ => tru_ok pins s1 σ H1 x v Q I1 r1 q1) (he _)

/-! ### strs and bytes -/
theorem pe_byt {x : List UInt8} {k : Nat} : PE X (.Constant (.bytes x) k pos) (fun _ H Q => Q (.byt x.toArray) H) := fun _ _ _ H _ I h => PySem.W.Constant_bytes ⟨.byt x.toArray, H, I.tok _, ⟨_, rfl⟩, h⟩
theorem op_add_str : OpR X (binaryOp .Add) (fun x y H Q => ∃ i j, x = .str i ∧ y = .str j ∧ i.length + j.length ≤ sizeLine ∧ Q (.str (i ++ j)) H) := by
  intro pins s σ H x y v u Q I rx ry h
  obtain ⟨i, j, rfl, rfl, hz, q⟩ := h
  obtain ⟨t, rfl⟩ := rx
  obtain ⟨t', rfl⟩ := ry
  exact add_str (fun t' tk => ⟨.str (i ++ j), H, I.tok _, ⟨_, rfl⟩, q⟩) hz
theorem iop_add_str : OpR X (inplaceOp .Add) (fun x y H Q => ∃ i j, x = .str i ∧ y = .str j ∧ i.length + j.length ≤ sizeLine ∧ Q (.str (i ++ j)) H) := by
  intro pins s σ H x y v u Q I rx ry h
  obtain ⟨i, j, rfl, rfl, hz, q⟩ := h
  obtain ⟨t, rfl⟩ := rx
  obtain ⟨t', rfl⟩ := ry
  exact iadd_str (fun t' tk => ⟨.str (i ++ j), H, I.tok _, ⟨_, rfl⟩, q⟩) hz
theorem op_add_byt : OpR X (binaryOp .Add) (fun x y H Q => ∃ i j, x = .byt i ∧ y = .byt j ∧ i.size + j.size ≤ 16777216 ∧ Q (.byt (i ++ j)) H) := by
  intro pins s σ H x y v u Q I rx ry h
  obtain ⟨i, j, rfl, rfl, hz, q⟩ := h
  obtain ⟨t, rfl⟩ := rx
  obtain ⟨t', rfl⟩ := ry
  exact PySem.W.KBy.add_bytes hz (fun t' tk => ⟨.byt (i ++ j), H, I.tok _, ⟨_, rfl⟩, q⟩)

def PlainIxT (b : Expr) : Prop := ∀ o i, subscripted b false o i = operate [o, i] (getItem o i)
/-- s[i], 0 ≤ i < len -/
theorem pe_item_str (ha : PE X a ta) (hb : PE X b tb) (hs : PlainIxT b) :
    PE X (.Subscript a b pos) (tOp (fun x y H Q => ∃ z i c, x = .str z ∧ y = .int i ∧ 0 ≤ i ∧ i < 2 ^ 63 ∧ i < z.length ∧ z.cps[i.toNat]? = some c ∧ Q (.str ⟨#[c]⟩) H) ta tb) := by
  intro pins s σ H Q I h
  refine Subscript_ (binT ha hb I h fun v u s2 x y H2 I2 rx ry q => ?_)
  obtain ⟨z, i, c, rfl, rfl, h0, h63, h1, hc, q⟩ := q
  obtain ⟨t, rfl⟩ := rx
  obtain ⟨t', rfl⟩ := ry
  have e : seqIndex? i z.length = some i.toNat := PySem.StrLaws.seqIndex_nonneg h0 h1
  exact tail_any (typeIs_str s2 z t) slot_str_getitem.lookup (getItem_str (c := c) (by
    have e1 : decide (i < -(2 ^ 63 : Int)) = false := decide_eq_false (by omega)
    have e2 : decide (i ≥ 2 ^ 63) = false := decide_eq_false (by omega)
    rw [e1, e2] <;> rfl) (by rw [e]; exact hc) ⟨.str ⟨#[c]⟩, H2, I2.tok _, ⟨_, rfl⟩, q⟩) (hs _ _)
/-- b[i], 0 ≤ i < len -/
theorem pe_item_byt (ha : PE X a ta) (hb : PE X b tb) (hs : PlainIxT b) :
    PE X (.Subscript a b pos) (tOp (fun x y H Q => ∃ (z : List UInt8) (i : Int), x = .byt z.toArray ∧ y = .int i ∧ z.length ≤ sizeLine ∧ 0 ≤ i ∧ i < z.length ∧ Q (.int ((z.getD i.toNat 0).toNat : Nat)) H) ta tb) := by
  intro pins s σ H Q I h
  refine Subscript_ (binT ha hb I h fun v u s2 x y H2 I2 rx ry q => ?_)
  obtain ⟨z, i, rfl, rfl, hz, h0, h1, q⟩ := q
  obtain ⟨t, rfl⟩ := rx
  obtain ⟨t', rfl⟩ := ry
  have hl : sizeLine = 16777216 := sizeLine_eq
  exact tail_any (PySem.W.typeIs_bytes s2 z.toArray t) PySem.W.FB.slot_bytes_getitem.lookup (PySem.W.getItem_bytes (by omega) h0 h1 ⟨.int ((z.getD i.toNat 0).toNat : Nat), H2, I2.tok _, ⟨_, rfl⟩, q⟩) (hs _ _)

/-! ### scalar builtins, by CallR -/
theorem vals1 {x : V} {us : List Value} (r : Vals [x] us) : ∃ u, us = [u] ∧ RelV x u := by
  cases r with
  | cons r1 r2 => cases r2; exact ⟨_, rfl, r1⟩
theorem vals2 {x y : V} {us : List Value} (r : Vals [x, y] us) : ∃ u w', us = [u, w'] ∧ RelV x u ∧ RelV y w' := by
  cases r with
  | cons r1 r2 =>
    cases r2 with
    | cons r3 r4 => cases r4; exact ⟨_, _, rfl, r1, r3⟩
theorem call_abs : CallR X (.builtin "abs") (fun xs H Q => ∃ i, xs = [.int i] ∧ Q (.int (if i < 0 then -i else i)) H) := by
  intro pins s σ H xs us Q I r h
  obtain ⟨i, rfl, q⟩ := h
  obtain ⟨u, rfl, t, rfl⟩ := vals1 r
  exact call_abs_int fun u tk => ⟨.int (if i < 0 then -i else i), H, I.tok _, ⟨_, rfl⟩, q⟩
theorem call_max2 (hc : X.calm = true) : CallR X (.builtin "max") (fun xs H Q => ∃ i j, xs = [.int i, .int j] ∧ Q (.int (if j > i then j else i)) H) := by
  intro pins s σ H xs us Q I r h
  obtain ⟨i, j, rfl, q⟩ := h
  obtain ⟨u, w', rfl, ⟨t, rfl⟩, ⟨t', rfl⟩⟩ := vals2 r
  refine max_two_ints (I.ok.hd hc) fun h' tk k => ⟨_, H, I.kept k, ?_, q⟩
  by_cases hj : j > i
  · rw [if_pos hj, if_pos hj]; exact ⟨_, rfl⟩
  · rw [if_neg hj, if_neg hj]; exact ⟨_, rfl⟩
theorem call_min2 (hc : X.calm = true) : CallR X (.builtin "min") (fun xs H Q => ∃ i j, xs = [.int i, .int j] ∧ Q (.int (if j < i then j else i)) H) := by
  intro pins s σ H xs us Q I r h
  obtain ⟨i, j, rfl, q⟩ := h
  obtain ⟨u, w', rfl, ⟨t, rfl⟩, ⟨t', rfl⟩⟩ := vals2 r
  refine min_two_ints (I.ok.hd hc) fun h' tk k => ⟨_, H, I.kept k, ?_, q⟩
  by_cases hj : j < i
  · rw [if_pos hj, if_pos hj]; exact ⟨_, rfl⟩
  · rw [if_neg hj, if_neg hj]; exact ⟨_, rfl⟩
theorem call_int1 : CallR X (.type "int") (fun xs H Q => (∃ i, xs = [.int i] ∧ Q (.int i) H) ∨ ∃ k, xs = [.bl k] ∧ Q (.int (if k then 1 else 0)) H) := by
  intro pins s σ H xs us Q I r h
  rcases h with ⟨i, rfl, q⟩ | ⟨k, rfl, q⟩
  · obtain ⟨u, rfl, t, rfl⟩ := vals1 r
    exact call_int_int ⟨.int i, H, I, ⟨_, rfl⟩, q⟩
  · obtain ⟨u, rfl, r1⟩ := vals1 r
    cases r1
    exact call_int_bool ⟨.int (if k then 1 else 0), H, I.tok _, ⟨_, rfl⟩, q⟩
theorem call_bool1 : CallR X (.type "bool") (fun xs H Q => (∃ i, xs = [.int i] ∧ Q (.bl (i != 0)) H) ∨ ∃ k, xs = [.bl k] ∧ Q (.bl k) H) := by
  intro pins s σ H xs us Q I r h
  rcases h with ⟨i, rfl, q⟩ | ⟨k, rfl, q⟩
  · obtain ⟨u, rfl, t, rfl⟩ := vals1 r
    exact call_bool_int ⟨.bl (i != 0), H, I, rfl, q⟩
  · obtain ⟨u, rfl, r1⟩ := vals1 r
    cases r1
    exact call_bool_bool ⟨.bl k, H, I, rfl, q⟩
theorem call_str_int : CallR X (.type "str") (fun xs H Q => ∃ i, xs = [.int i] ∧ i.natAbs.log2 < 1920 ∧ Q (.str (toString i)) H) := by
  intro pins s σ H xs us Q I r h
  obtain ⟨i, rfl, hz, q⟩ := h
  obtain ⟨u, rfl, t, rfl⟩ := vals1 r
  exact PySem.P.str_of_int hz ⟨.str _, H, I.tok _, ⟨_, rfl⟩, q⟩
theorem call_ord : CallR X (.builtin "ord") (fun xs H Q => ∃ x, xs = [.str x] ∧ x.length = 1 ∧ Q (.int (x.cps.getD 0 0 : Nat)) H) := by
  intro pins s σ H xs us Q I r h
  obtain ⟨x, rfl, hz, q⟩ := h
  obtain ⟨u, rfl, t, rfl⟩ := vals1 r
  exact ord_of_one hz ⟨.int _, H, I.tok _, ⟨_, rfl⟩, q⟩
theorem call_chr : CallR X (.builtin "chr") (fun xs H Q => ∃ i, xs = [.int i] ∧ 0 ≤ i ∧ i ≤ 1114111 ∧ Q (.str ⟨#[i.toNat]⟩) H) := by
  intro pins s σ H xs us Q I r h
  obtain ⟨i, rfl, h0, h1, q⟩ := h
  obtain ⟨u, rfl, t, rfl⟩ := vals1 r
  exact chr_of_range h0 h1 ⟨.str _, H, I.tok _, ⟨_, rfl⟩, q⟩
/-- len of a str, a bytes, a list, a tuple -/
def LenV (K : PySem.W.Frag) (x : V) (H : Hp) (n : Nat) : Prop :=
  match x with
  | .str y => y.length ≤ sizeLine ∧ n = y.length
  | .byt y => y.size ≤ sizeLine ∧ n = y.size
  | .ref p => (∃ xs, SqL K H p xs ∧ n = xs.length) ∨ ∃ xs, SqT K H p xs ∧ n = xs.length
  | _ => False
theorem call_len : CallR X (.builtin "len") (fun xs H Q => ∃ x n, xs = [x] ∧ LenV X.K x H n ∧ Q (.int n) H) := by
  intro pins s σ H xs us Q I r h
  obtain ⟨x, n, rfl, e, q⟩ := h
  obtain ⟨u, rfl, rx⟩ := vals1 r
  have hl := line63
  have hs : sizeLine = 16777216 := sizeLine_eq
  cases x with
  | str y =>
    obtain ⟨t, rfl⟩ := rx
    obtain ⟨hy, e'⟩ : y.length ≤ sizeLine ∧ n = y.length := e
    subst e'
    exact len_str (by omega) ⟨.int _, H, I.tok _, ⟨_, rfl⟩, q⟩
  | byt y =>
    obtain ⟨t, rfl⟩ := rx
    obtain ⟨hy, e'⟩ : y.size ≤ sizeLine ∧ n = y.size := e
    subst e'
    exact PySem.W.len_bytes (by omega) ⟨.int _, H, I.tok _, ⟨_, rfl⟩, q⟩
  | ref p =>
    cases rx
    have e' : (∃ xs, SqL X.K H p xs ∧ n = xs.length) ∨ ∃ xs, SqT X.K H p xs ∧ n = xs.length := e
    rcases e' with ⟨xs, hx, e'⟩ | ⟨xs, hx, e'⟩
    · subst e'
      obtain ⟨its, r', pl, hz⟩ := I.list hx
      have hlen := r'.length
      exact Calls.call_len_list pl.isList (by simp only [List.size_toArray]; omega) ⟨.int xs.length, H, I.tok _, ⟨_, by simp only [List.size_toArray]; rw [hlen]⟩, q⟩
    · subst e'
      obtain ⟨its, r', pl, hz⟩ := I.tuple hx
      have hlen := r'.length
      exact len_tuple pl (by simp only [List.size_toArray]; omega) ⟨.int xs.length, H, I.tok _, ⟨_, by simp only [List.size_toArray]; rw [hlen]⟩, q⟩
  | _ => exact (show False from e).elim
/-- divmod: a new tuple -/
theorem call_divmod : CallR X (.builtin "divmod") (fun xs H Q => ∃ i j, xs = [.int i, .int j] ∧ CDiv i j ∧ ∀ p, H p = none → Q (.ref p) (upd H p (.tup [.int (i / j), .int (i % j)]))) := by
  intro pins s σ H xs us Q I r h
  obtain ⟨i, j, rfl, ⟨h1, h2⟩, q⟩ := h
  obtain ⟨u, w', rfl, ⟨t, rfl⟩, ⟨t', rfl⟩⟩ := vals2 r
  refine divmod_int (by omega) ?_ (.inl (PyProof.noPylong_small (by omega)))
  rw [Int.fdiv_eq_ediv_of_nonneg i (by omega), Int.fmod_eq_emod_of_nonneg i (by omega)]
  have hn : H s.heap.objs.size = none := I.hok.fresh (Nat.le_refl _)
  refine ⟨.ref s.heap.objs.size, _, ?_, rfl, q _ hn⟩
  refine I.laid (fun b o e => Heap.get?_push_of_some _ e) (Nat.le_refl _) ⟨by simp only [List.length_cons, List.length_nil]; rw [sizeLine_eq]; decide, [.int (i / j) s.toks, .int (i % j) (s.toks + 1)], .cons ⟨_, rfl⟩ (.cons ⟨_, rfl⟩ .nil), ?_⟩
  exact ⟨_, Heap.get?_push_size s.heap rfl, rfl, 0, rfl⟩
end
end L2

namespace L2
open PySem PySem.Spec PyProof.Rows

/-! ### an instance, its attributes a map -/
structure ObjM (h : Heap) (x dx C : Addr) (mA : Str → Option Value) : Prop where
  obj : h.get? x = some (PySem.W.instObj C dx)
  ns : h.Ns1 dx mA
  ne : dx ≠ x

theorem lookIn_ns {h : Heap} {dx : Addr} {mA : Str → Option Value} (n : h.Ns1 dx mA) : ∃ od, h.get? dx = some od ∧ ∀ name, PySem.W.lookIn name od = some (mA name) := by
  obtain ⟨o, es, ep, ho, hd, hk, _, hm⟩ := n
  refine ⟨o, ho, fun name => ?_⟩
  have e := hm name
  unfold nsFind findBy at e
  rw [← Array.find?_toList] at e
  unfold PySem.W.lookIn
  rw [hd]
  dsimp only
  split
  · rename_i y q
    rw [q] at e
    exact congrArg some e
  · rename_i q
    rw [q] at e
    have a : es.toList.any (·.refKey) = false := by
      rw [List.any_eq_false]
      intro y hy
      obtain ⟨z, t, hkey⟩ := hk y (Array.mem_toList_iff.mp hy)
      simp [DictEntry.refKey, hkey]
    have a' : ¬ es.toList.any (·.refKey) = true := by rw [a]; exact Bool.false_ne_true
    rw [if_neg a']
    exact congrArg some e

theorem ObjM.look {h : Heap} {x dx C : Addr} {mA : Str → Option Value} (I : ObjM h x dx C mA) : ∃ od, PySem.W.InstAt h x (PySem.W.instObj C dx) C (some od) ∧ ∀ name, PySem.W.lookIn name od = some (mA name) :=
  let ⟨od, ho, hl⟩ := lookIn_ns I.ns
  ⟨od, ⟨I.obj, rfl, rfl, ho⟩, hl⟩

section
variable {prog : Program} {w : World} {A : Around} {E : Value → Shared → Prop} {s : Shared} {K : PySem.W.Frag} {x dx C f : Addr} {mA : Str → Option Value} {name : Str} {v : Value}

theorem get_map {expr : Bool} {Q : Value → Shared → Prop} (X : K.In s.heap) (I : ObjM s.heap x dx C mA) (hg : PySem.W.plainGet K C name = true) (hh : PySem.W.hasDictIn K C = true)
    (ha : PySem.W.findIn K (.ref C) name = some none) (hv : mA name = some v) (hv' : PySem.W.handedIn v = true) (h : Q v { s with toks := s.toks + 1 }) :
    wpAny (model prog w) A (getAttr (.ref x) name expr) Q E s := by
  obtain ⟨od, J, hl⟩ := I.look
  exact PySem.W.get_value X J (PySem.W.plainGet_of hg).1 (PySem.W.findObj_own hh ha rfl (by rw [hl, hv])) hv' h

theorem get_const {expr : Bool} {a : Value} {Q : Value → Shared → Prop} (X : K.In s.heap) (I : ObjM s.heap x dx C mA) (hg : PySem.W.plainGet K C name = true) (hh : PySem.W.hasDictIn K C = true)
    (ha : PySem.W.findIn K (.ref C) name = some (some a)) (hn : PySem.W.specialIn K a "__get__" = some none) (hc : PySem.W.copiedNames.contains name = false) (hv : mA name = none) (hv' : PySem.W.handedIn a = true)
    (h : Q a { s with toks := s.toks + 1 }) : wpAny (model prog w) A (getAttr (.ref x) name expr) Q E s := by
  obtain ⟨od, J, hl⟩ := I.look
  exact PySem.W.get_value X J (PySem.W.plainGet_of hg).1 (PySem.W.findObj_cls hh ha hn hv' hc (by rw [hl, hv])) hv' h

theorem get_meth {pl : Sem Bool} {Q : Value × List Value → Shared → Prop} (X : K.In s.heap) (I : ObjM s.heap x dx C mA) (hg : PySem.W.plainGet K C name = true)
    (hf : PySem.W.findIn K (.ref C) name = some (some (.ref f))) (ht : PySem.W.isFn K (.ref f) = true) (hv : mA name = none) (h : Q (.ref f, [.ref x]) s) :
    wpAny (model prog w) A (getMethod (.ref x) name pl) Q E s := by
  obtain ⟨od, J, hl⟩ := I.look
  exact PySem.W.method_fn X J (PySem.W.plainGet_of hg).1 (PySem.W.plainGet_of hg).2 hf (beq_iff_eq.mp ht) (by show (PySem.W.lookIn name od).map (·.isSome) = some false; rw [hl, hv]; rfl) h

theorem set_map {ns : List Str} {Q : Unit → Shared → Prop} (X : K.In s.heap) (I : ObjM s.heap x dx C mA)
    (hs : PySem.W.findIn K (.ref C) "__setattr__" = some (some (.builtin "object.__setattr__"))) (hp : PySem.W.plainOver K C = true) (ht : PySem.W.takerIn K C name = some none) (hh : PySem.W.hasDictIn K C = true)
    (hw : PySem.Within mA ns) (hsz : ns.length ≤ sizeLine)
    (h : ∀ h', ObjM h' x dx C (fun y => if y = name then some v else mA y) → Heap.SameBut dx s.heap h' → Q () { s with heap := h', toks := s.toks + 2 }) :
    wpAny (model prog w) A (setAttr (.ref x) name v) Q E s := by
  obtain ⟨od, J, hl⟩ := I.look
  refine PySem.W.set_plain X J hs (PySem.W.osa_open (s := { s with toks := s.toks + 1 }) (r := none) X J hp ht fun b => ?_)
  obtain ⟨cd, hc, hd'⟩ := PySem.W.any_some hh
  have hx : s.heap.get? x = some ⟨.ref C, some dx, .plain, #[]⟩ := I.obj
  refine wpAny_bind (wpAny_pure (wpAny_bind (wpAny_bind (wpAny_loadPart hx (wpAny_bind (PySem.W.Looks.here (s := { s with toks := s.toks + 1 }) (PySem.W.looks_clsIn X hc) ?_))))))
  rw [hd']
  refine wpAny_pure (a := some dx) (wpAny_bind (wpAny_pure (wpAny_bind ?_)))
  refine wpAny_nsSet1 (s := { s with toks := s.toks + 1 }) I.ns fun h' hn2 hs2 => ?_
  obtain ⟨oD, esD, epD, hoD, hdD, hcD⟩ := hn2.count (PySem.Within.cons name v hw)
  refine wpAny_bind (wpAny_lookBehind hoD (by rw [hdD]; exact pastItsLine_dict (Nat.le_trans hcD (by rw [List.length_cons]; omega))) ?_)
  exact wpAny_pure (h _ ⟨(hs2.2 _ (Ne.symm I.ne)).trans I.obj, hn2, I.ne⟩ hs2)

/-- C(..): the dict at the heap's end, the instance behind it; then its __init__ -/
theorem make_map {R : Result → Shared → Prop} {vs : List Value} {kw : List (Str × Value)} (X : K.In s.heap) (hm : PySem.W.makesIn K C = true)
    (hi : PySem.W.findIn K (.ref C) "__init__" = some (some (.ref f))) (hf : PySem.W.typeIn K (.ref f) = some (.type "function"))
    (h : codeAny (model prog w) (A.under (.builtin "type.__call__" ⟨.ref C :: vs, kw⟩)) (.call (.ref f) ⟨.ref (s.heap.objs.size + 1) :: vs, kw⟩) (PySem.W.InitBack (s.heap.objs.size + 1) R)
      { s with heap := (s.heap.push PySem.W.emptyDict).push (PySem.W.instObj C s.heap.objs.size) }) :
    codeAny (model prog w) A (.call (.ref C) ⟨vs, kw⟩) R s := by
  obtain ⟨hh, g, d, t, os⟩ := s
  exact PySem.W.make_core (PySem.W.makes_of X hm) (PySem.W.looks_findIn X hi) (fun self => PySem.W.bind_fn X self hf) (.inl rfl) h
/-- C() where there is no __init__ but object's -/
theorem make_map0 {R : Result → Shared → Prop} (X : K.In s.heap) (hm : PySem.W.makesIn K C = true)
    (hi : PySem.W.findIn K (.ref C) "__init__" = some (some (.builtin "object.__init__")))
    (hb : ∀ self, PySem.W.Looks (model prog w) s.heap (bindSpecial (.builtin "object.__init__") self) (.builtin "object.__init__", [self]))
    (h : codeAny (model prog w) (A.under (.builtin "type.__call__" ⟨[.ref C], []⟩)) (.call (.builtin "object.__init__") ⟨[.ref (s.heap.objs.size + 1)], []⟩) (PySem.W.InitBack (s.heap.objs.size + 1) R)
      { s with heap := (s.heap.push PySem.W.emptyDict).push (PySem.W.instObj C s.heap.objs.size) }) :
    codeAny (model prog w) A (.call (.ref C) ⟨[], []⟩) R s := by
  obtain ⟨hh, g, d, t, os⟩ := s
  exact PySem.W.make_core (PySem.W.makes_of X hm) (PySem.W.looks_findIn X hi) hb (.inr ⟨rfl, rfl⟩) h
end

/-! ### the attributes as a list of pairs -/
def putF (f : Str) (v : V) : List (Str × V) → List (Str × V)
  | [] => [(f, v)]
  | (g, x) :: r => if g = f then (g, v) :: r else (g, x) :: putF f v r
theorem lookup_putF (f g : Str) (v : V) : ∀ fs : List (Str × V), (putF f v fs).lookup g = if g = f then some v else fs.lookup g
  | [] => by
    show List.lookup g [(f, v)] = _
    by_cases h : g = f
    · have hb : (g == f) = true := beq_iff_eq.mpr h
      simp only [List.lookup, hb, if_pos h]
    · have hb : (g == f) = false := beq_eq_false_iff_ne.mpr h
      simp only [List.lookup, hb, if_neg h]
  | (k, x) :: r => by
    have ih := lookup_putF f g v r
    rw [show putF f v ((k, x) :: r) = (if k = f then (k, v) :: r else (k, x) :: putF f v r) from rfl]
    by_cases hk : k = f
    · rw [if_pos hk]
      by_cases h : g = k
      · have hb : (g == k) = true := beq_iff_eq.mpr h
        simp only [List.lookup, hb, if_pos (h.trans hk)]
      · have hb : (g == k) = false := beq_eq_false_iff_ne.mpr h
        simp only [List.lookup, hb, if_neg (fun e : g = f => h (e.trans hk.symm))]
    · rw [if_neg hk]
      by_cases h : g = k
      · have hb : (g == k) = true := beq_iff_eq.mpr h
        simp only [List.lookup, hb, if_neg (fun e : g = f => hk (h.symm.trans e))]
      · have hb : (g == k) = false := beq_eq_false_iff_ne.mpr h
        simp only [List.lookup, hb]
        exact ih
theorem keys_putF (f : Str) (v : V) : ∀ fs : List (Str × V), f ∈ (putF f v fs).map (·.1) ∧ ∀ g, g ∈ fs.map (·.1) → g ∈ (putF f v fs).map (·.1)
  | [] => ⟨by simp [putF], fun g h => by simp at h⟩
  | (k, x) :: r => by
    obtain ⟨i1, i2⟩ := keys_putF f v r
    rw [show putF f v ((k, x) :: r) = (if k = f then (k, v) :: r else (k, x) :: putF f v r) from rfl]
    by_cases hk : k = f
    · rw [if_pos hk]
      subst hk
      exact ⟨by simp, fun g h => by simpa using h⟩
    · rw [if_neg hk]
      refine ⟨?_, fun g h => ?_⟩
      · rw [List.map_cons]
        exact List.mem_cons_of_mem _ i1
      · rw [List.map_cons] at h ⊢
        rcases List.mem_cons.mp h with e | e
        · exact List.mem_cons.mpr (.inl e)
        · exact List.mem_cons_of_mem _ (i2 g e)
theorem length_putF (f : Str) (v : V) : ∀ fs : List (Str × V), (putF f v fs).length ≤ fs.length + 1
  | [] => by simp [putF]
  | (k, x) :: r => by
    have ih := length_putF f v r
    rw [show putF f v ((k, x) :: r) = (if k = f then (k, v) :: r else (k, x) :: putF f v r) from rfl]
    by_cases hk : k = f
    · rw [if_pos hk, List.length_cons, List.length_cons]; omega
    · rw [if_neg hk, List.length_cons, List.length_cons]; omega

theorem RelO.some_of {v : V} {o : Option Value} (r : RelO (some v) o) : ∃ u, o = some u ∧ RelV v u := by
  cases o with
  | none => exact (show False from r).elim
  | some u => exact ⟨u, rfl, r⟩
theorem RelO.none_of {o : Option Value} (r : RelO none o) : o = none := by
  cases o with
  | none => rfl
  | some u => exact (show False from r).elim
theorem handed_of {v : V} {u : Value} (r : RelV v u) : PySem.W.handedIn u = true := by
  cases v with
  | non => cases (show u = Value.none from r); rfl
  | bl b => cases (show u = Value.bool b from r); rfl
  | int i => obtain ⟨t, e⟩ := (show ∃ t, u = Value.int i t from r); cases e; rfl
  | str x => obtain ⟨t, e⟩ := (show ∃ t, u = Value.str x t from r); cases e; rfl
  | byt b => obtain ⟨t, e⟩ := (show ∃ t, u = Value.bytes b t from r); cases e; rfl
  | flt b => obtain ⟨t, e⟩ := (show ∃ t, u = Value.float b t from r); cases e; rfl
  | ref a => cases (show u = Value.ref a from r); rfl
  | ty n => cases (show u = Value.type n from r); rfl

section
variable {P : Program} {w : World} {H H' : Hp} {h h' : Heap} {a C dx : Addr} {fs fs' : List (Str × V)}
theorem ins_get (hok : HOk P w H h) (e : H a = some (.ins C dx fs)) : ∃ mA, ObjM h a dx C mA ∧ (∀ f, RelO (fs.lookup f) (mA f)) ∧ PySem.Within mA (fs.map (·.1)) ∧ fs.length ≤ 1000 ∧ H dx = some (.own a) := by
  obtain ⟨d, z, ne, ob, mA, n, r, q⟩ := (show ObjOk P w H h a (.ins C dx fs) from hok a _ e)
  exact ⟨mA, ⟨ob, n, ne⟩, r, q, z, d⟩
end

/-! ### what of the text a class must have -/
structure Cls (K : PySem.W.Frag) (C : Addr) : Prop where
  pg : PySem.W.plainGet K C Str.empty = true
  hd : PySem.W.hasDictIn K C = true
  po : PySem.W.plainOver K C = true
  sa : PySem.W.findIn K (.ref C) "__setattr__" = some (some (.builtin "object.__setattr__"))
theorem Cls.get {K : PySem.W.Frag} {C : Addr} (c : Cls K C) (f : Str) : PySem.W.plainGet K C f = true := c.pg
/-- no class of it has the name -/
def NoAttr (K : PySem.W.Frag) (C : Addr) (f : Str) : Prop := PySem.W.findIn K (.ref C) f = some none
theorem NoAttr.taker {K : PySem.W.Frag} {C : Addr} {f : Str} (n : NoAttr K C f) : PySem.W.takerIn K C f = some none := by
  unfold PySem.W.takerIn
  rw [show PySem.W.findIn K (.ref C) f = some none from n]
  rfl
/-- a constant of the class -/
structure Con (K : PySem.W.Frag) (C : Addr) (f : Str) (v : V) (u : Value) : Prop where
  at_ : PySem.W.findIn K (.ref C) f = some (some u)
  rel : RelV v u
  get : PySem.W.specialIn K u "__get__" = some none
  cp : PySem.W.copiedNames.contains f = false
/-- a method: a plain def of the class or of one above it -/
structure Meth (K : PySem.W.Frag) (C : Addr) (m : Str) (f : Addr) : Prop where
  at_ : PySem.W.findIn K (.ref C) m = some (some (.ref f))
  fn : PySem.W.isFn K (.ref f) = true
  kp : PySem.W.keepIn K (.ref f) = true

section
variable {X : Cx} {pins : List (Addr × Obj)} {σ : St} {H : Hp} {s : Shared} {a C dx : Addr} {fs : List (Str × V)} {f : Str} {v : V} {A : Around} {E : Value → Shared → Prop}

theorem getattr_ok {b : Bool} {Q : Value → Shared → Prop} (I : Inv X pins σ H s) (e : H a = some (.ins C dx fs)) (c : Cls X.K C) (n : NoAttr X.K C f) (l : fs.lookup f = some v)
    (h : ∀ u s', Inv X pins σ H s' → RelV v u → Q u s') : wpAny (model X.prog X.w) A (getAttr (.ref a) f b) Q E s := by
  obtain ⟨mA, O, r, _, _, _⟩ := ins_get I.hok e
  obtain ⟨u, hu, ru⟩ := RelO.some_of (v := v) (o := mA f) (by rw [← l]; exact r f)
  exact get_map I.kIn O (c.get f) c.hd n hu (handed_of ru) (h u _ (I.tok _) ru)

theorem getcon_ok {b : Bool} {u : Value} {Q : Value → Shared → Prop} (I : Inv X pins σ H s) (e : H a = some (.ins C dx fs)) (c : Cls X.K C) (k : Con X.K C f v u) (l : fs.lookup f = none)
    (h : ∀ s', Inv X pins σ H s' → Q u s') : wpAny (model X.prog X.w) A (getAttr (.ref a) f b) Q E s := by
  obtain ⟨mA, O, r, _, _, _⟩ := ins_get I.hok e
  have hn : mA f = none := RelO.none_of (by rw [← l]; exact r f)
  exact get_const I.kIn O (c.get f) c.hd k.at_ k.get k.cp hn (handed_of k.rel) (h _ (I.tok _))

theorem getmeth_ok {m : Str} {g : Addr} {pl : Sem Bool} {Q : Value × List Value → Shared → Prop} (I : Inv X pins σ H s) (e : H a = some (.ins C dx fs)) (c : Cls X.K C) (k : Meth X.K C m g) (l : fs.lookup m = none)
    (h : Q (.ref g, [.ref a]) s) : wpAny (model X.prog X.w) A (getMethod (.ref a) m pl) Q E s := by
  obtain ⟨mA, O, r, _, _, _⟩ := ins_get I.hok e
  have hn : mA m = none := RelO.none_of (by rw [← l]; exact r m)
  exact get_meth I.kIn O (c.get m) k.at_ k.fn hn h

theorem setattr_ok {y : V} {u : Value} {Q : Unit → Shared → Prop} (I : Inv X pins σ H s) (e : H a = some (.ins C dx fs)) (c : Cls X.K C) (n : NoAttr X.K C f) (hl : fs.length < 1000) (ry : RelV y u)
    (h : ∀ s', Inv X pins σ (upd H a (.ins C dx (putF f y fs))) s' → Q () s') : wpAny (model X.prog X.w) A (setAttr (.ref a) f u) Q E s := by
  obtain ⟨mA, O, r, wi, _, ho⟩ := ins_get I.hok e
  have hz : (fs.map (·.1)).length ≤ sizeLine := by rw [List.length_map, sizeLine_eq]; omega
  refine set_map I.kIn O c.sa c.po n.taker c.hd wi hz fun h' O' sb => h _ ?_
  have hd : ∃ o, h'.get? dx = some o := let ⟨o, _, _, e', _⟩ := O'.ns; ⟨o, e'⟩
  refine I.write (x := a) (e := dx) (by rw [e]; exact True.intro) (.inr ho) (fun b q hb z => (sb.2 b hb).trans z) hd ?_
  refine ⟨by rw [upd_ne O.ne]; exact ho, ?_, O.ne, O'.obj, _, O'.ns, fun g => ?_, fun g hg => ?_⟩
  · have := length_putF f y fs; omega
  · show RelO ((putF f y fs).lookup g) (if g = f then some u else mA g)
    rw [lookup_putF]
    by_cases q : g = f
    · rw [if_pos q, if_pos q]; exact ry
    · rw [if_neg q, if_neg q]; exact r g
  · by_cases q : g = f
    · rw [q]; exact (keys_putF f y fs).1
    · refine (keys_putF f y fs).2 g (wi g fun z => hg ?_)
      show (if g = f then some u else mA g) = none
      rw [if_neg q]; exact z

/-- a new instance, tracked, without attributes -/
theorem Inv.made (I : Inv X pins σ H s) : Inv X pins σ (upd (upd H s.heap.objs.size (.own (s.heap.objs.size + 1))) (s.heap.objs.size + 1) (.ins C s.heap.objs.size []))
    { s with heap := (s.heap.push PySem.W.emptyDict).push (PySem.W.instObj C s.heap.objs.size) } := by
  have e1 : (s.heap.push PySem.W.emptyDict).get? s.heap.objs.size = some PySem.W.emptyDict := Heap.get?_push_size s.heap rfl
  have e2 : ((s.heap.push PySem.W.emptyDict).push (PySem.W.instObj C s.heap.objs.size)).get? (s.heap.objs.size + 1) = some (PySem.W.instObj C s.heap.objs.size) := by
    have := Heap.get?_push_size (s.heap.push PySem.W.emptyDict) (o := PySem.W.instObj C s.heap.objs.size) rfl
    rwa [Heap.size_push] at this
  have e3 : (s.heap.push PySem.W.emptyDict).Ns s.heap.objs.size (fun _ => none) := ⟨PySem.W.emptyDict, #[], _, e1, rfl, (fun e he => absurd he (by simp)), fun _ => rfl⟩
  have I1 := I.laid (a := s.heap.objs.size) (o := .own (s.heap.objs.size + 1)) (h' := s.heap.push PySem.W.emptyDict) (t' := s.toks) (fun b u q => Heap.get?_push_of_some _ q) (Nat.le_refl _) ⟨_, e1⟩
  refine I1.laid (a := s.heap.objs.size + 1) (o := .ins C s.heap.objs.size []) (t' := s.toks) (fun b u q => Heap.get?_push_of_some _ q) (Nat.le_of_eq (Heap.size_push _ _)) ?_
  have ne : s.heap.objs.size ≠ s.heap.objs.size + 1 := Nat.ne_of_lt (Nat.lt_succ_self _)
  refine ⟨by rw [upd_ne ne, upd_same], Nat.zero_le _, ne, e2, fun _ => none, (Heap.Ns1.of_empty e3).at fun o q => Heap.get?_push_of_some _ q, fun _ => True.intro, fun y hy => absurd rfl hy⟩

/-- e.f where nothing but the object is asked: through attributeBase (super) and the last hold -/
theorem attr_of {prog : Program} {w : World} {env : Env} {e : Expr} {f : Str} {pos : Pos} {s : Shared} {Q : Value → Shared → Prop} (hb : attributeBase e f env (eval e env) = eval e env)
    (h : wpAny (model prog w) A (eval e env) (fun o s₁ => wpAny (model prog w) A (getAttr o f true) Q E s₁) E s) : wpAny (model prog w) A (eval (.Attribute e f pos) env) Q E s :=
  Attribute_any_ h (by rw [arm_eval_Attribute, hb])
end

/-! ### readings and rules -/
/-- e.f, an attribute of the instance -/
def tFld (K : PySem.W.Frag) (ta : TE) (f : Str) : TE := fun σ H Q => ta σ H fun x H1 => ∃ a C dx fs v, x = .ref a ∧ H1 a = some (.ins C dx fs) ∧ Cls K C ∧ NoAttr K C f ∧ fs.lookup f = some v ∧ Q v H1
/-- e.f, a constant of the class -/
def tCon (K : PySem.W.Frag) (ta : TE) (f : Str) : TE := fun σ H Q => ta σ H fun x H1 => ∃ a C dx fs v u, x = .ref a ∧ H1 a = some (.ins C dx fs) ∧ Cls K C ∧ Con K C f v u ∧ fs.lookup f = none ∧ Q v H1
/-- e.f = value -/
def sFld (K : PySem.W.Frag) (ta tv : TE) (f : Str) : TS := fun D σ H => tv σ H fun y H1 => ta σ H1 fun x H2 => ∃ a C dx fs, x = .ref a ∧ H2 a = some (.ins C dx fs) ∧ Cls K C ∧ NoAttr K C f ∧ fs.length < 1000 ∧
  D.nx σ (upd H2 a (.ins C dx (putF f y fs)))
/-- an augmented operator on two values -/
def InOp (X : Cx) (op : Operator) (rd : V → V → Hp → VK → Prop) : Prop :=
  ∀ (pins : List (Addr × Obj)) (s : Shared) (σ : St) (H : Hp) (x y : V) (u v : Value) (Q : VK), Inv X pins σ H s → RelV x u → RelV y v → rd x y H Q → wpAny (model X.prog X.w) X.A (inplaceOp op u v) (EP X pins σ Q) X.xe s
/-- e.f op= value -/
def sFldAug (K : PySem.W.Frag) (ta tv : TE) (rd : V → V → Hp → VK → Prop) (f : Str) : TS := fun D σ H => ta σ H fun x H1 => ∃ a C dx fs v, x = .ref a ∧ H1 a = some (.ins C dx fs) ∧ Cls K C ∧ NoAttr K C f ∧ fs.lookup f = some v ∧
  tv σ H1 fun y H2 => rd v y H2 fun z H3 => ∃ dx' fs', H3 a = some (.ins C dx' fs') ∧ fs'.length < 1000 ∧ D.nx σ (upd H3 a (.ins C dx' (putF f z fs')))

section
variable {X : Cx} {o e value : Expr} {f : Str} {pos pos' tpos : Pos} {ta tv : TE}
theorem pe_fld (he : PE X e ta) (hb : attributeBase e f X.env (eval e X.env) = eval e X.env) : PE X (.Attribute e f pos) (tFld X.K ta f) := by
  intro pins s σ H Q I h
  refine attr_of hb (thn (he pins s σ H _ I h) fun u s1 ⟨x, H1, I1, rx, a, C, dx, fs, v, ex, ea, c, n, l, q⟩ => ?_)
  subst ex
  obtain rfl : u = Value.ref a := rx
  exact getattr_ok I1 ea c n l fun u' s2 I2 ru => ⟨v, H1, I2, ru, q⟩
theorem pe_con (he : PE X e ta) (hb : attributeBase e f X.env (eval e X.env) = eval e X.env) : PE X (.Attribute e f pos) (tCon X.K ta f) := by
  intro pins s σ H Q I h
  refine attr_of hb (thn (he pins s σ H _ I h) fun u s1 ⟨x, H1, I1, rx, a, C, dx, fs, v, u0, ex, ea, c, k, l, q⟩ => ?_)
  subst ex
  obtain rfl : u = Value.ref a := rx
  exact getcon_ok I1 ea c k l fun s2 I2 => ⟨v, H1, I2, k.rel, q⟩
theorem ps_fld (ha : PE X o ta) (hv : PE X value tv) (hs : swapsWith value (some (.Attribute o f pos')) pos.line X.env = pure false) : PS X (.Assign [.Attribute o f pos'] value pos) (sFld X.K ta tv f) := by
  intro pins s σ H D I h
  refine plainObj_wpAny_Assign_Attribute (thn (hv pins s σ H _ I h) fun u s1 ⟨y, H1, I1, ry, q⟩ => thn (ha pins s1 σ H1 _ I1 q) fun ov s2 ⟨x, H2, I2, rx, a, C, dx, fs, ex, ea, c, n, l, q2⟩ => ?_) hs
  subst ex
  obtain rfl : ov = Value.ref a := rx
  exact setattr_ok I2 ea c n l ry fun s3 I3 => ⟨σ, _, I3, q2⟩
theorem ps_fldaug {op : Operator} {rd : V → V → Hp → VK → Prop} (ha : PE X o ta) (hv : PE X value tv) (hop : InOp X op rd) : PS X (.AugAssign (.Attribute o f tpos) op value pos) (sFldAug X.K ta tv rd f) := by
  intro pins s σ H D I h
  refine wpAny_AugAssign_AttributeAny (thn (ha pins s σ H _ I h) fun ov s1 ⟨x, H1, I1, rx, a, C, dx, fs, v, ex, ea, c, n, l, q⟩ => ?_)
  subst ex
  obtain rfl : ov = Value.ref a := rx
  refine getattr_ok I1 ea c n l fun u s2 I2 ru => thn (hv pins s2 σ H1 _ I2 q) fun w3 s3 ⟨y, H2, I3, ry, q3⟩ => thn (hop pins s3 σ H2 v y u w3 _ I3 ru ry q3) fun w4 s4 ⟨z, H3, I4, rz, dx', fs', ea', l', q4⟩ => ?_
  exact setattr_ok I4 ea' c n l' rz fun s5 I5 => ⟨σ, _, I5, q4⟩
def rAdd : V → V → Hp → VK → Prop := fun x y H Q => ∃ i j, x = .int i ∧ y = .int j ∧ Q (.int (i + j)) H
def rSub : V → V → Hp → VK → Prop := fun x y H Q => ∃ i j, x = .int i ∧ y = .int j ∧ Q (.int (i - j)) H
theorem in_add : InOp X .Add rAdd := by
  rintro pins s σ H x y u v Q I rx ry ⟨i, j, rfl, rfl, q⟩
  obtain ⟨t, rfl⟩ := (show ∃ t, u = Value.int i t from rx)
  obtain ⟨t', rfl⟩ := (show ∃ t', v = Value.int j t' from ry)
  exact PyProof.Rows.iadd_int ⟨.int (i + j), H, I.tok _, ⟨_, rfl⟩, q⟩
theorem in_sub : InOp X .Sub rSub := by
  rintro pins s σ H x y u v Q I rx ry ⟨i, j, rfl, rfl, q⟩
  obtain ⟨t, rfl⟩ := (show ∃ t, u = Value.int i t from rx)
  obtain ⟨t', rfl⟩ := (show ∃ t', v = Value.int j t' from ry)
  exact PyProof.Rows.isub_int ⟨.int (i - j), H, I.tok _, ⟨_, rfl⟩, q⟩

/-- what is between an instance and its method: the tree of a method call -/
theorem methcall_of {pl : Sem Bool} {m : Str} {apos : Pos} {args : List Expr} {pins : List (Addr × Obj)} {s : Shared} {σ : St} {H : Hp} {Q : Value → Shared → Prop} {te : TE} (he : PE X e te) (I : Inv X pins σ H s)
    (h : te σ H fun x H1 => ∃ a C dx fs g, x = .ref a ∧ H1 a = some (.ins C dx fs) ∧ Cls X.K C ∧ Meth X.K C m g ∧ fs.lookup m = none ∧
      ∀ s1, Inv X pins σ H1 s1 → wpAny (model X.prog X.w) X.A (callWith pos (.ref g) [.ref a] (backTo pos (starEach args X.env)) (backToKw pos (keywordEach [] X.env))) Q X.xe s1)
    (ht : eval (.Call (.Attribute e m apos) args [] pos) X.env = (do
      let ov ← eval e X.env
      standAt apos.atName
      let (f, first) ← holding [ov] (getMethod ov m pl)
      callWith pos f first (backTo pos (starEach args X.env)) (backToKw pos (keywordEach [] X.env)))) :
    wpAny (model X.prog X.w) X.A (eval (.Call (.Attribute e m apos) args [] pos) X.env) Q X.xe s := by
  refine PySem.W.methodCall_KW (pl := pl) (thn (he pins s σ H _ I h) fun u s1 ⟨x, H1, I1, rx, a, C, dx, fs, g, ex, ea, c, k, l, q⟩ => ?_) ht
  subst ex
  obtain rfl : u = Value.ref a := rx
  exact getmeth_ok I1 ea c k l (q s1 I1)
end

/-! ### isinstance -/
section
variable {X : Cx} {pins : List (Addr × Obj)} {σ : St} {H : Hp} {s : Shared} {A : Around} {E : Value → Shared → Prop} {Q : Value → Shared → Prop} {c : Value} {b : Bool}
/-- the type of a value, as the fragment's deciders take it; for an instance its class -/
inductive TyOf (K : PySem.W.Frag) (H : Hp) : V → Value → Prop where
  | non : TyOf K H .non (.type "NoneType")
  | bl (x : Bool) : TyOf K H (.bl x) (.type "bool")
  | int (i : Int) : TyOf K H (.int i) (.type "int")
  | str (x : Str) : TyOf K H (.str x) (.type "str")
  | flt (x : UInt64) : TyOf K H (.flt x) (.type "float")
  | lst {a : Addr} {xs : List V} (e : H a = some (.lst xs)) : TyOf K H (.ref a) (.type "list")
  | frz {a : Addr} {o : Obj} {xs : List V} (e : H a = some (.frz o (.lst xs))) : TyOf K H (.ref a) (.type "list")
  | tup {a : Addr} {xs : List V} (e : H a = some (.tup xs)) : TyOf K H (.ref a) (.type "tuple")
  | dK {a : Addr} {kvs : List (Key × V)} (e : H a = some (.dK kvs)) : TyOf K H (.ref a) (.type "dict")
  | dT {a : Addr} {kvs : List (List Key × V)} (e : H a = some (.dT kvs)) : TyOf K H (.ref a) (.type "dict")
  | ins {a C dx : Addr} {fs : List (Str × V)} (e : H a = some (.ins C dx fs)) (cl : Cls K C) (ha : PySem.W.findIn K (.ref C) "__class__" = some (some (.builtin "object.__class__")))
      (hn : PySem.W.specialIn K (.builtin "object.__class__") "__get__" = some (some (.builtin "getset_descriptor.__get__"))) (htk : PySem.W.takesIn K (.builtin "object.__class__") = some true)
      (hm : PySem.W.mroIn K C (.type "object") = some true) : TyOf K H (.ref a) (.ref C)
/-- isinstance(x, c) for one class c, a built-in or an own one: kitOne's answer -/
theorem isinst_ok {x : V} {u t : Value} (I : Inv X pins σ H s) (rx : RelV x u) (ty : TyOf X.K H x t) (e : PySem.W.kitOne X.K t c = some b) (h : ∀ tk, Q (.bool b) { s with toks := tk }) :
    wpAny (model X.prog X.w) A (call (.builtin "isinstance") [u, c]) Q E s := by
  cases ty with
  | non => cases (show u = Value.none from rx); exact PySem.W.kia_one PySem.W.kitx_none I.kIn True.intro e (fun z => nomatch z) h
  | bl y => cases (show u = Value.bool y from rx); exact PySem.W.kia_one PySem.W.kitx_bool I.kIn True.intro e (fun z => nomatch z) h
  | int i => obtain ⟨t, q⟩ := (show ∃ t, u = Value.int i t from rx); cases q; exact PySem.W.kia_one PySem.W.kitx_int I.kIn True.intro e (fun z => nomatch z) h
  | str y => obtain ⟨t, q⟩ := (show ∃ t, u = Value.str y t from rx); cases q; exact PySem.W.kia_one PySem.W.kitx_str I.kIn True.intro e (fun z => nomatch z) h
  | flt y => obtain ⟨t, q⟩ := (show ∃ t, u = Value.float y t from rx); cases q; exact PySem.W.kia_one PySem.W.kitx_float I.kIn True.intro e (fun z => nomatch z) h
  | @lst a xs ea =>
    cases (show u = Value.ref a from rx)
    obtain ⟨_, _, n, _, h1⟩ := (show ObjOk X.prog X.w H s.heap a (.lst xs) from I.hok a _ ea)
    exact PySem.W.kia_one PySem.W.kitx_list I.kIn ⟨_, h1, rfl⟩ e (fun z => nomatch z) h
  | @frz a ob xs ea =>
    cases (show u = Value.ref a from rx)
    obtain ⟨_, _, _, n, _, h1⟩ := (show ObjOk X.prog X.w H s.heap a (.frz ob (.lst xs)) from I.hok a _ ea)
    exact PySem.W.kia_one PySem.W.kitx_list I.kIn ⟨_, h1, rfl⟩ e (fun z => nomatch z) h
  | @tup a xs ea =>
    cases (show u = Value.ref a from rx)
    obtain ⟨_, _, _, p⟩ := (show ObjOk X.prog X.w H s.heap a (.tup xs) from I.hok a _ ea)
    obtain ⟨o, h1, h2, _⟩ := p
    exact PySem.W.kia_one PySem.W.kitx_tuple I.kIn ⟨o, h1, h2⟩ e (fun z => nomatch z) h
  | @dK a kvs ea =>
    cases (show u = Value.ref a from rx)
    obtain ⟨_, _, vs, _, p⟩ := (show ObjOk X.prog X.w H s.heap a (.dK kvs) from I.hok a _ ea)
    obtain ⟨o, es, ep, h1, h2, _⟩ := p
    exact PySem.W.kia_one PySem.W.kitx_dict I.kIn ⟨o, h1, h2.1⟩ e (fun z => nomatch z) h
  | @dT a kvs ea =>
    cases (show u = Value.ref a from rx)
    obtain ⟨_, _, xs, _, o, es, ep, h1, h2, _⟩ := (show ObjOk X.prog X.w H s.heap a (.dT kvs) from I.hok a _ ea)
    exact PySem.W.kia_one PySem.W.kitx_dict I.kIn ⟨o, h1, h2.1⟩ e (fun z => nomatch z) h
  | @ins a C dx fs ea cl ha hn htk hm =>
    cases (show u = Value.ref a from rx)
    obtain ⟨mA, O, _⟩ := ins_get I.hok ea
    obtain ⟨od, J, _⟩ := O.look
    exact PySem.W.kia_one (PySem.W.kitx_own (cl.get _) cl.hd ha hn htk hm) I.kIn J e (fun z => nomatch z) h
end
end L2

namespace L2
open PySem PySem.Spec PyProof.Rows

/-! ### room -/
structure Room (k : Nat) (A : Around) : Prop where
  hd : A.handled = none
  dp : A.depth + 3 * k + 5 < recursionLimit
  un : A.units + 16 * k + 200 < cLine
theorem Room.mono {j k : Nat} {A : Around} (r : Room k A) (h : j ≤ k) : Room j A := ⟨r.hd, by have := r.dp; omega, by have := r.un; omega⟩
theorem Room.deeper {k : Nat} {A : Around} (r : Room (k + 1) A) (env : Env) : Room k (A.deeper env) :=
  ⟨r.hd, by have := r.dp; show A.depth + 1 + 3 * k + 5 < _; omega, by have := r.un; show A.units + 3 + 16 * k + 200 < _; omega⟩
theorem Room.in1 {k : Nat} {A : Around} (r : Room (k + 1) A) : Room k A.in1 :=
  ⟨r.hd, by have := r.dp; show A.depth + 3 * k + 5 < _; omega, by have := r.un; show A.units + 1 + 16 * k + 200 < _; omega⟩
theorem make_depth {A : Around} {C : Addr} {us : List Value} {kw : List (Str × Value)} : (A.under (.builtin "type.__call__" ⟨.ref C :: us, kw⟩)).depth = A.depth + 1 := by
  first | rfl | simp [Around.under, Code.weight, Code.isCreation, Code.isGuard, Code.isCaller, Code.frames, Code.isFrame, guardIds]
theorem make_units {A : Around} {C : Addr} {us : List Value} {kw : List (Str × Value)} : (A.under (.builtin "type.__call__" ⟨.ref C :: us, kw⟩)).units = A.units + 1 := by
  first | rfl | simp [Around.under, Code.cUnits, Code.frames, Code.isFrame]
theorem Room.make {k : Nat} {A : Around} (r : Room (k + 1) A) (C : Addr) (us : List Value) (kw : List (Str × Value)) : Room k (A.under (.builtin "type.__call__" ⟨.ref C :: us, kw⟩)) :=
  ⟨r.hd, by have := r.dp; rw [make_depth]; omega, by have := r.un; rw [make_units]; omega⟩
theorem Room.depth {k : Nat} {A : Around} (r : Room k A) : A.depth < recursionLimit := by have := r.dp; omega
theorem Room.units {k : Nat} {A : Around} (r : Room k A) : A.units + 64 < cLine := by have := r.un; omega
theorem Room.units0 {k : Nat} {A : Around} (r : Room k A) : A.units < cLine := by have := r.un; omega

/-! ### argument lists and displays -/
def tNil : TA := fun _ H Q => Q [] H
def tCons (ta : TE) (tr : TA) : TA := fun σ H Q => ta σ H fun x H1 => tr σ H1 fun xs H2 => Q (x :: xs) H2
section
variable {X : Cx} {e : Expr} {es : List Expr} {te : TE} {t : TA} {pos : Pos}
theorem pa_nil : PA X [] tNil := fun _ _ _ _ H Q I h => Calls.spliced_nil ⟨[], H, I, .nil, h⟩
theorem pa_cons (ha : PE X e te) (hr : PA X es t) (hs : starEach (e :: es) X.env = (false, eval e X.env) :: starEach es X.env := by rfl) : PA X (e :: es) (tCons te t) := by
  intro pos pins s σ H Q I h
  rw [hs]
  show wpAny _ _ (spliced ((false, eval e X.env) :: backTo pos (starEach es X.env))) _ _ s
  refine Calls.spliced_cons (thn (ha pins s σ H _ I h) fun u s1 ⟨x, H1, I1, r1, q1⟩ => ?_)
  exact thn (hr pos pins s1 σ H1 _ I1 q1) fun us s2 ⟨xs, H2, I2, r2, q2⟩ => ⟨x :: xs, H2, I2, .cons r1 r2, q2⟩

/-- a tuple, a list of written items -/
def tTup (t : TA) : TE := fun σ H Q => t σ H fun xs H1 => xs.length ≤ sizeLine ∧ ∀ p, H1 p = none → Q (.ref p) (upd H1 p (.tup xs))
def tLst (t : TA) : TE := fun σ H Q => t σ H fun xs H1 => xs.length ≤ sizeLine ∧ ∀ p, H1 p = none → Q (.ref p) (upd H1 p (.lst xs))
theorem pe_tup {x1} (h : PA X es t) : PE X (.Tuple es x1 pos) (tTup t) := by
  intro pins s σ H Q I hq
  refine wpAny_Tuple_spliced (thn (h pos pins s σ H _ I hq) fun us s1 ⟨xs, H1, I1, r, z, q⟩ => ⟨by rw [← r.length]; exact z, ?_⟩)
  have hf : H1 s1.heap.objs.size = none := I1.hok.fresh (Nat.le_refl _)
  refine ⟨.ref s1.heap.objs.size, upd H1 s1.heap.objs.size (.tup xs), I1.laid (t' := s1.toks) (fun b u e => Heap.get?_push_of_some _ e) (Nat.le_refl _) ?_, rfl, q _ hf⟩
  exact ⟨z, us, r, ⟨_, Heap.get?_push_size _ rfl, rfl, _, rfl⟩⟩
theorem pe_lst (h : PA X es t) : PE X (.List es pos) (tLst t) := by
  intro pins s σ H Q I hq
  refine wpAny_List_spliced (thn (h pos pins s σ H _ I hq) fun us s1 ⟨xs, H1, I1, r, z, q⟩ => ⟨by rw [← r.length]; exact z, ?_⟩)
  have hf : H1 s1.heap.objs.size = none := I1.hok.fresh (Nat.le_refl _)
  refine ⟨.ref s1.heap.objs.size, upd H1 s1.heap.objs.size (.lst xs), I1.laid (t' := s1.toks) (fun b u e => Heap.get?_push_of_some _ e) (Nat.le_refl _) ?_, rfl, q _ hf⟩
  exact ⟨z, us, 0, r, Heap.get?_push_size _ rfl⟩
end

/-! ### what a def promises -/
/-- a def's promise: the bound arguments in the parameters' order, the heap, the wanted end, the wanted exception -/
abbrev Sp := List V → Hp → VK → XK → Prop
/-- how an exception lies behind a call (file 08 gives it): the callers' frames, abstract heap and state ahead of the call, the wish, the exception, the state -/
abbrev CXT := List Env → Hp → Shared → XK → Value → Shared → Prop

/-- the state at a call -/
structure Env0 (P : Program) (w : World) (K : PySem.W.Frag) (mg : Str → Option Value) (base : Heap) (A : Around) (outer : List Env) (s : Shared) (H : Hp) : Prop where
  frames : A.frames = some outer
  mod : Mod K mg base
  bs : ∀ b o, base.get? b = some o → s.heap.get? b = some o ∧ H b = none
  bsz : base.objs.size ≤ s.heap.objs.size
  funs : s.heap.FunFrames base outer
  frf : ∀ b ∈ frs outer, H b = none
  hok : HOk P w H s.heap
  bare : AllBare s.gens
/-- a call's end -/
def CE (outer : List Env) (P : Program) (w : World) (H : Hp) (s : Shared) (Q : VK) (u : Value) (s' : Shared) : Prop :=
  ∃ v H', s'.os = s.os ∧ AllBare s'.gens ∧ Un (frs outer) [] H H' s.heap s'.heap ∧ HOk P w H' s'.heap ∧ RelV v u ∧ Q v H'
def CR (CX : CXT) (outer : List Env) (P : Program) (w : World) (H : Hp) (s : Shared) (Q : VK) (E : XK) (r : Result) (s' : Shared) : Prop :=
  match r with
  | .ok (.ret u) => CE outer P w H s Q u s'
  | .ok _ => False
  | .error e => CX outer H s E e s'
structure FnOk (P : Program) (w : World) (K : PySem.W.Frag) (mg : Str → Option Value) (base : Heap) (CX : CXT) (k : Nat) (f : Addr) (fd : FuncData) (ps : List Str) (sp : Sp) : Prop where
  len : ∀ vs H Q E, sp vs H Q E → vs.length = ps.length
  run : ∀ (A : Around) (outer : List Env) (s : Shared) (H : Hp) (args : Args) (us : List Value) (vs : List V) (Q : VK) (E : XK), Room k A → Env0 P w K mg base A outer s H → BindsTo s fd args (ps.zip us) → Vals vs us → sp vs H Q E →
    codeAny (model P w) A (.call (.ref f) args) (CR CX outer P w H s Q E) s
theorem FnOk.mono {P : Program} {w : World} {K : PySem.W.Frag} {mg : Str → Option Value} {base : Heap} {CX : CXT} {j k : Nat} {f : Addr} {fd : FuncData} {ps : List Str} {sp : Sp} (F : FnOk P w K mg base CX j f fd ps sp) (h : j ≤ k) :
    FnOk P w K mg base CX k f fd ps sp := ⟨F.len, fun A outer s H args us vs Q E hr => F.run A outer s H args us vs Q E (hr.mono h)⟩
/-- a weaker promise -/
theorem FnOk.imp {P : Program} {w : World} {K : PySem.W.Frag} {mg : Str → Option Value} {base : Heap} {CX : CXT} {k : Nat} {f : Addr} {fd : FuncData} {ps : List Str} {sp sp' : Sp} (F : FnOk P w K mg base CX k f fd ps sp)
    (h : ∀ vs H Q E, sp' vs H Q E → sp vs H Q E) : FnOk P w K mg base CX k f fd ps sp' :=
  ⟨fun vs H Q E q => F.len vs H Q E (h _ _ _ _ q), fun A outer s H args us vs Q E hr he hb hv hs => F.run A outer s H args us vs Q E hr he hb hv (h _ _ _ _ hs)⟩

theorem Env0.make {P : Program} {w : World} {K : PySem.W.Frag} {mg : Str → Option Value} {base : Heap} {A : Around} {outer : List Env} {s : Shared} {H : Hp} (e : Env0 P w K mg base A outer s H) (C : Addr) (us : List Value) (kw : List (Str × Value)) :
    Env0 P w K mg base (A.under (.builtin "type.__call__" ⟨.ref C :: us, kw⟩)) outer s H := ⟨by first | exact e.frames | (simpa [Around.under, Code.envs, Code.isFrame, pushEnvs] using e.frames), e.mod, e.bs, e.bsz, e.funs, e.frf, e.hok, e.bare⟩
theorem Env0.in1 {P : Program} {w : World} {K : PySem.W.Frag} {mg : Str → Option Value} {base : Heap} {A : Around} {outer : List Env} {s : Shared} {H : Hp} (e : Env0 P w K mg base A outer s H) :
    Env0 P w K mg base A.in1 outer s H := ⟨e.frames, e.mod, e.bs, e.bsz, e.funs, e.frf, e.hok, e.bare⟩

section
variable {X : Cx} {pins : List (Addr × Obj)} {σ : St} {H : Hp} {s s' : Shared}
/-- from a body: what a callee wants -/
theorem Inv.env0 (I : Inv X pins σ H s) : Env0 X.prog X.w X.K X.mg X.base X.A X.stack s H :=
  ⟨I.ok.frames, I.ok.mod, I.bs, Nat.le_trans I.ok.bsz I.sz, I.stack, I.stkFree, I.hok, I.bare⟩
/-- behind a call -/
theorem Inv.after {Q : VK} {u : Value} (I : Inv X pins σ H s) (h : CE X.stack X.prog X.w H s Q u s') : EP X pins σ Q u s' := by
  obtain ⟨v, H', os, bare, un, hok, r, q⟩ := h
  obtain ⟨hh, g, d, t, os'⟩ := s'
  obtain rfl : os' = s.os := os
  exact ⟨v, H', I.call (h' := hh) (g' := g) (d' := d) (t' := t) (ch := []) un hok bare (fun b z => absurd z (by simp)), r, q⟩
end

/-! ### calls -/
/-- f(..): the written arguments, then the defaults dvs; E: what is wanted of an exception -/
def tCall (sp : Sp) (dvs : List V) (E : XK) (t : TA) : TE := fun σ H Q => t σ H fun vs H1 => sp (vs ++ dvs) H1 Q E
/-- o.m(..) of an instance of the class at C -/
def tMeth (C : Addr) (m : Str) (sp : Sp) (dvs : List V) (E : XK) (ta : TE) (t : TA) : TE := fun σ H Q => ta σ H fun x H1 => ∃ a dx fs, x = .ref a ∧ H1 a = some (.ins C dx fs) ∧ fs.lookup m = none ∧
  t σ H1 fun vs H2 => sp (x :: (vs ++ dvs)) H2 Q E
/-- C(..): a new instance and its dict, then __init__ -/
def tMake (C : Addr) (sp : Sp) (dvs : List V) (E : XK) (t : TA) : TE := fun σ H Q => t σ H fun vs H1 => ∀ x dx, H1 x = none → H1 dx = none → dx ≠ x →
  sp (.ref x :: (vs ++ dvs)) (upd (upd H1 dx (.own x)) x (.ins C dx [])) (fun v H2 => v = .non ∧ Q (.ref x) H2) E

/-- how the parameters are bound: us the positional arguments, kw the keywords' values by name, ds the defaults that fill up -/
def Binds (K : PySem.W.Frag) (fd : FuncData) (ps : List Str) (ds : List Value) : Prop :=
  ∀ (s : Shared) (us : List Value), K.In s.heap → (us ++ ds).length = ps.length → BindsTo s fd ⟨us, []⟩ (ps.zip (us ++ ds))
/-- every parameter is given -/
theorem Binds.all {K : PySem.W.Frag} {fd : FuncData} {ps : List Str} (h : ∀ us : List Value, us.length = ps.length → bindArgs fd ⟨us, []⟩ = pure (ps.zip us)) : Binds K fd ps [] := fun s us _ hl => by
  rw [List.append_nil] at hl ⊢
  exact .of_eq (h us hl)

/-- an exception of a callee reaches what this body wants of exceptions -/
def Passes (CX : CXT) (X : Cx) (E : XK) : Prop := ∀ (pins : List (Addr × Obj)) (σ : St) (H : Hp) (s : Shared) (e : Value) (s' : Shared), Inv X pins σ H s → CX X.stack H s E e s' → X.xe e s'

section
variable {X : Cx} {CX : CXT} {k : Nat} {f C : Addr} {fd : FuncData} {ps : List Str} {sp : Sp} {dvs : List V} {ds : List Value} {E : XK} {x m : Str} {p pos apos : Pos} {e o : Expr} {es : List Expr} {ta : TE} {t : TA}

/-- the callee runs -/
theorem run_fn {pins : List (Addr × Obj)} {σ : St} {H : Hp} {s : Shared} {Q : VK} {us : List Value} {vs : List V} (F : FnOk X.prog X.w X.K X.mg X.base CX k f fd ps sp) (hr : Room k X.A) (hb : Binds X.K fd ps ds) (hd : Vals dvs ds) (hx : Passes CX X E)
    (I : Inv X pins σ H s) (r : Vals vs us) (h : sp (vs ++ dvs) H Q E) : wpAny (model X.prog X.w) X.A (call (.ref f) us) (EP X pins σ Q) X.xe s := by
  have r2 : Vals (vs ++ dvs) (us ++ ds) := r.append hd
  have hl : (us ++ ds).length = ps.length := by rw [← r2.length]; exact F.len _ _ _ _ h
  refine wpAny_call (codeAny_mono (F.run X.A X.stack s H ⟨us, []⟩ (us ++ ds) (vs ++ dvs) Q E hr I.env0 (hb s us I.kIn hl) r2 h) fun r s' hq => ?_)
  cases r with
  | error e => exact hx pins σ H s e s' I hq
  | ok fl =>
    cases fl with
    | ret u => exact I.after hq
    | next => exact False.elim hq
    | brk => exact False.elim hq
    | cont => exact False.elim hq

theorem pe_call (F : FnOk X.prog X.w X.K X.mg X.base CX k f fd ps sp) (hr : Room k X.A) (hg : Gl X x) (hm : X.mg x = some (.ref f)) (hk : PySem.W.keepIn X.K (.ref f) = true) (hb : Binds X.K fd ps ds) (hd : Vals dvs ds) (hx : Passes CX X E)
    (ha : PA X (e :: es) t) (hdb : (x == ("__debug__" : Str)) = false := by decide) (he : starEach (e :: es) X.env = (false, eval e X.env) :: starEach es X.env := by rfl) (hpl : (backTo pos (starEach es X.env)).any (·.1) = false := by rfl) :
    PE X (.Call (.Name x p) (e :: es) [] pos) (tCall sp dvs E t) := by
  intro pins s σ H Q I h
  refine wpAny_Call_Name_kw (ld_glob I hg hm ?_ hdb)
  refine PySem.W.callWith_K (h₀ := X.base) I.ok.mod.kin hk (thn (ha pos pins s σ H _ I h) fun us s1 ⟨vs, H1, I1, r, q⟩ => ⟨I1.kIn, ?_⟩) he hpl
  exact run_fn F hr hb hd hx I1 r q
theorem pe_call0 (F : FnOk X.prog X.w X.K X.mg X.base CX k f fd ps sp) (hr : Room k X.A) (hg : Gl X x) (hm : X.mg x = some (.ref f)) (hk : PySem.W.keepIn X.K (.ref f) = true) (hb : Binds X.K fd ps ds) (hd : Vals dvs ds) (hx : Passes CX X E)
    (hdb : (x == ("__debug__" : Str)) = false := by decide) : PE X (.Call (.Name x p) [] [] pos) (tCall sp dvs E tNil) := by
  intro pins s σ H Q I h
  refine wpAny_Call_Name_kw (ld_glob I hg hm ?_ hdb)
  exact PySem.W.callWith_K0 I.kIn hk (run_fn (us := []) F hr hb hd hx I .nil h)

/-- o.m(e, ..) -/
theorem pe_meth {pl : Sem Bool} (he : PE X o ta) (c : Cls X.K C) (hm : Meth X.K C m f) (F : FnOk X.prog X.w X.K X.mg X.base CX k f fd ps sp) (hr : Room k X.A) (hb : Binds X.K fd ps ds) (hd : Vals dvs ds) (hx : Passes CX X E) (ha : PA X (e :: es) t)
    (hst : starEach (e :: es) X.env = (false, eval e X.env) :: starEach es X.env := by rfl) (hpl : (backTo pos (starEach es X.env)).any (·.1) = false := by rfl)
    (ht : eval (.Call (.Attribute o m apos) (e :: es) [] pos) X.env = (do
      let ov ← eval o X.env
      standAt apos.atName
      let (f, first) ← holding [ov] (getMethod ov m pl)
      callWith pos f first (backTo pos (starEach (e :: es) X.env)) (backToKw pos (keywordEach [] X.env))) := by rfl) :
    PE X (.Call (.Attribute o m apos) (e :: es) [] pos) (tMeth C m sp dvs E ta t) := by
  intro pins s σ H Q I h
  refine PySem.W.methodCall_KW (pl := pl) (thn (he pins s σ H _ I h) fun u s1 ⟨x, H1, I1, rx, a, dx, fs, ex, ea, l, q⟩ => ?_) ht
  subst ex
  obtain rfl : u = Value.ref a := rx
  refine getmeth_ok I1 ea c hm l ?_
  refine PySem.W.callWith_K (first := [.ref a]) (h₀ := X.base) I.ok.mod.kin hm.kp (thn (ha pos pins s1 σ H1 _ I1 q) fun us s2 ⟨vs, H2, I2, r, q2⟩ => ⟨I2.kIn, ?_⟩) hst hpl
  exact run_fn (us := .ref a :: us) (vs := .ref a :: vs) F hr hb hd hx I2 (.cons rfl r) q2
/-- o.m() -/
theorem pe_meth0 {pl : Sem Bool} (he : PE X o ta) (c : Cls X.K C) (hm : Meth X.K C m f) (F : FnOk X.prog X.w X.K X.mg X.base CX k f fd ps sp) (hr : Room k X.A) (hb : Binds X.K fd ps ds) (hd : Vals dvs ds) (hx : Passes CX X E)
    (ht : eval (.Call (.Attribute o m apos) [] [] pos) X.env = (do
      let ov ← eval o X.env
      standAt apos.atName
      let (f, first) ← holding [ov] (getMethod ov m pl)
      callWith pos f first (backTo pos (starEach [] X.env)) (backToKw pos (keywordEach [] X.env))) := by rfl) :
    PE X (.Call (.Attribute o m apos) [] [] pos) (tMeth C m sp dvs E ta tNil) := by
  intro pins s σ H Q I h
  refine PySem.W.methodCall_KW (pl := pl) (thn (he pins s σ H _ I h) fun u s1 ⟨x, H1, I1, rx, a, dx, fs, ex, ea, l, q⟩ => ?_) ht
  subst ex
  obtain rfl : u = Value.ref a := rx
  refine getmeth_ok I1 ea c hm l ?_
  exact PySem.W.callWith_K0 (first := [.ref a]) I1.kIn hm.kp (run_fn (us := [.ref a]) (vs := [.ref a]) F hr hb hd hx I1 (.cons rfl .nil) q)

/-- what a class must have to be made -/
structure Mk (K : PySem.W.Frag) (C f : Addr) : Prop where
  makes : PySem.W.makesIn K C = true
  init : PySem.W.findIn K (.ref C) "__init__" = some (some (.ref f))
  fn : PySem.W.isFn K (.ref f) = true
  kp : PySem.W.keepIn K (.ref C) = true

theorem run_make {pins : List (Addr × Obj)} {σ : St} {H : Hp} {s : Shared} {Q : VK} {us : List Value} {vs : List V} (M : Mk X.K C f) (F : FnOk X.prog X.w X.K X.mg X.base CX k f fd ps sp) (hr : Room (k + 1) X.A) (hb : Binds X.K fd ps ds) (hd : Vals dvs ds)
    (hx : Passes CX X E) (I : Inv X pins σ H s) (r : Vals vs us)
    (h : ∀ x dx, H x = none → H dx = none → dx ≠ x → sp (.ref x :: (vs ++ dvs)) (upd (upd H dx (.own x)) x (.ins C dx [])) (fun v H2 => v = .non ∧ Q (.ref x) H2) E) :
    wpAny (model X.prog X.w) X.A (call (.ref C) us) (EP X pins σ Q) X.xe s := by
  have hq := h (s.heap.objs.size + 1) s.heap.objs.size (I.hok.fresh (Nat.le_succ _)) (I.hok.fresh (Nat.le_refl _)) (Nat.ne_of_lt (Nat.lt_succ_self _))
  have I2 := Inv.made (C := C) I
  have r2 : Vals (V.ref (s.heap.objs.size + 1) :: (vs ++ dvs)) (Value.ref (s.heap.objs.size + 1) :: (us ++ ds)) := .cons rfl (r.append hd)
  have hl : (Value.ref (s.heap.objs.size + 1) :: us ++ ds).length = ps.length := by
    have e := r2.length
    rw [F.len _ _ _ _ hq] at e
    exact e.symm
  refine wpAny_call (make_map (f := f) I.kIn M.makes M.init (beq_iff_eq.mp M.fn) (codeAny_mono (F.run _ X.stack _ _ ⟨Value.ref (s.heap.objs.size + 1) :: us, []⟩ (Value.ref (s.heap.objs.size + 1) :: (us ++ ds)) _ _ E (hr.make C us [])
    (I2.env0.make C us []) (hb _ (Value.ref (s.heap.objs.size + 1) :: us) I2.kIn hl) r2 hq) fun r s' hq' => ?_))
  cases r with
  | error e => exact hx pins σ _ _ e s' I2 hq'
  | ok fl =>
    cases fl with
    | ret u =>
      obtain ⟨v, H', I3, rv, ev, q3⟩ := I2.after hq'
      subst ev
      exact ⟨rv, ⟨V.ref (s.heap.objs.size + 1), H', I3, rfl, q3⟩⟩
    | next => exact False.elim hq'
    | brk => exact False.elim hq'
    | cont => exact False.elim hq'
theorem pe_make (M : Mk X.K C f) (F : FnOk X.prog X.w X.K X.mg X.base CX k f fd ps sp) (hr : Room (k + 1) X.A) (hg : Gl X x) (hm : X.mg x = some (.ref C)) (hb : Binds X.K fd ps ds) (hd : Vals dvs ds) (hx : Passes CX X E)
    (ha : PA X (e :: es) t) (hdb : (x == ("__debug__" : Str)) = false := by decide) (he : starEach (e :: es) X.env = (false, eval e X.env) :: starEach es X.env := by rfl) (hpl : (backTo pos (starEach es X.env)).any (·.1) = false := by rfl) :
    PE X (.Call (.Name x p) (e :: es) [] pos) (tMake C sp dvs E t) := by
  intro pins s σ H Q I h
  refine wpAny_Call_Name_kw (ld_glob I hg hm ?_ hdb)
  refine PySem.W.callWith_K (h₀ := X.base) I.ok.mod.kin M.kp (thn (ha pos pins s σ H _ I h) fun us s1 ⟨vs, H1, I1, r, q⟩ => ⟨I1.kIn, ?_⟩) he hpl
  exact run_make M F hr hb hd hx I1 r q
theorem pe_make0 (M : Mk X.K C f) (F : FnOk X.prog X.w X.K X.mg X.base CX k f fd ps sp) (hr : Room (k + 1) X.A) (hg : Gl X x) (hm : X.mg x = some (.ref C)) (hb : Binds X.K fd ps ds) (hd : Vals dvs ds) (hx : Passes CX X E)
    (hdb : (x == ("__debug__" : Str)) = false := by decide) : PE X (.Call (.Name x p) [] [] pos) (tMake C sp dvs E tNil) := by
  intro pins s σ H Q I h
  refine wpAny_Call_Name_kw (ld_glob I hg hm ?_ hdb)
  exact PySem.W.callWith_K0 I.kIn M.kp (run_make (us := []) M F hr hb hd hx I .nil h)
end

/-! ### keywords -/
/-- the values of the keywords, from the left -/
def PK (X : Cx) (kws : List Keyword) (t : TA) : Prop :=
  ∀ (pos : Pos) (pins : List (Addr × Obj)) (s : Shared) (σ : St) (H : Hp) (Q : List V → Hp → Prop), Inv X pins σ H s → t σ H Q → wpAny (model X.prog X.w) X.A (evalAll ((backToKw pos (keywordEach kws X.env)).map (·.2))) (AP X pins σ Q) X.xe s
section
variable {X : Cx} {CX : CXT} {k : Nat} {f C : Addr} {fd : FuncData} {ps ks : List Str} {sp : Sp} {E : XK} {x m : Str} {p pos apos kpos : Pos} {e o : Expr} {es : List Expr} {kws : List Keyword} {te ta : TE} {t tk : TA} {nm : Option Str}
theorem pk_nil : PK X [] tNil := fun _ _ _ _ H Q I h => wpAny_evalAll_nil ⟨[], H, I, .nil, h⟩
theorem pk_cons (ha : PE X e te) (hr : PK X kws t) : PK X (⟨nm, e, kpos⟩ :: kws) (tCons te t) := by
  intro pos pins s σ H Q I h
  show wpAny _ _ (evalAll ((do let v ← eval e X.env; standAt pos; pure v) :: (backToKw pos (keywordEach kws X.env)).map (·.2))) _ _ s
  refine wpAny_evalAll_cons (wpAny_bind (thn (ha pins s σ H _ I h) fun u s1 ⟨x, H1, I1, r1, q1⟩ => wpAny_bind (wpAny_standAt (wpAny_pure ?_))))
  exact thn (hr pos pins s1 σ H1 _ I1 q1) fun us s2 ⟨xs, H2, I2, r2, q2⟩ => ⟨x :: xs, H2, I2, .cons r1 r2, q2⟩

/-- how a call with keywords binds: g puts the positional values us and the keywords' values ws (names ks) in the parameters' order, defaults among them -/
structure KBinds (K : PySem.W.Frag) (fd : FuncData) (ps ks : List Str) (g : List Value → List Value → List Value) (gV : List V → List V → List V) : Prop where
  to : ∀ (s : Shared) (us ws : List Value), K.In s.heap → (g us ws).length = ps.length → BindsTo s fd ⟨us, ks.zip ws⟩ (ps.zip (g us ws))
  rel : ∀ {vs : List V} {us : List Value} {zs : List V} {ws : List Value}, Vals vs us → Vals zs ws → Vals (gV vs zs) (g us ws)
def tCallK (sp : Sp) (gV : List V → List V → List V) (E : XK) (t tk : TA) : TE := fun σ H Q => t σ H fun vs H1 => tk σ H1 fun zs H2 => sp (gV vs zs) H2 Q E
variable {g : List Value → List Value → List Value} {gV : List V → List V → List V}
theorem run_fnk {pins : List (Addr × Obj)} {σ : St} {H : Hp} {s : Shared} {Q : VK} {us ws : List Value} {vs zs : List V} (F : FnOk X.prog X.w X.K X.mg X.base CX k f fd ps sp) (hr : Room k X.A) (hb : KBinds X.K fd ps ks g gV) (hx : Passes CX X E)
    (I : Inv X pins σ H s) (r : Vals vs us) (rz : Vals zs ws) (h : sp (gV vs zs) H Q E) : wpAny (model X.prog X.w) X.A (call (.ref f) us (ks.zip ws)) (EP X pins σ Q) X.xe s := by
  have r2 := hb.rel r rz
  have hl : (g us ws).length = ps.length := by rw [← r2.length]; exact F.len _ _ _ _ h
  refine wpAny_call (codeAny_mono (F.run X.A X.stack s H ⟨us, ks.zip ws⟩ (g us ws) (gV vs zs) Q E hr I.env0 (hb.to s us ws I.kIn hl) r2 h) fun r s' hq => ?_)
  cases r with
  | error e => exact hx pins σ H s e s' I hq
  | ok fl =>
    cases fl with
    | ret u => exact I.after hq
    | next => exact False.elim hq
    | brk => exact False.elim hq
    | cont => exact False.elim hq
/-- f(e, .., k = v, ..) -/
theorem pe_callK (F : FnOk X.prog X.w X.K X.mg X.base CX k f fd ps sp) (hr : Room k X.A) (hg : Gl X x) (hm : X.mg x = some (.ref f)) (hk : PySem.W.keepIn X.K (.ref f) = true) (hb : KBinds X.K fd ps ks g gV) (hx : Passes CX X E)
    (ha : PA X (e :: es) t) (hkw : PK X kws tk) (hall : (backToKw pos (keywordEach kws X.env)).all (·.1.isSome) = true := by rfl) (hks : (backToKw pos (keywordEach kws X.env)).filterMap (·.1) = ks := by rfl)
    (hdb : (x == ("__debug__" : Str)) = false := by decide) (he : starEach (e :: es) X.env = (false, eval e X.env) :: starEach es X.env := by rfl)
    (hpl : ((backTo pos (starEach (e :: es) X.env)).any (·.1) || (backToKw pos (keywordEach kws X.env)).any (·.1.isNone)) = false := by rfl) :
    PE X (.Call (.Name x p) (e :: es) kws pos) (tCallK sp gV E t tk) := by
  intro pins s σ H Q I h
  refine wpAny_Call_Name_kw (ld_glob I hg hm ?_ hdb)
  refine PySem.W.callWith_KW (h₀ := X.base) I.ok.mod.kin hk hall (thn (ha pos pins s σ H _ I h) fun us s1 ⟨vs, H1, I1, r, q⟩ => ?_) hpl he
  refine thn (hkw pos pins s1 σ H1 _ I1 q) fun ws s2 ⟨zs, H2, I2, rz, q2⟩ => ⟨I2.kIn, ?_⟩
  rw [hks]
  exact run_fnk F hr hb hx I2 r rz q2
end

/-! ### a def's body keeps its promise -/
/-- names: the parameters first -/
structure FnScope (N P : List Str) (sc : Scope) : Prop where
  kind : sc.kind = .function
  co : sc.isCoroutine = false
  gen : sc.isGenerator = false
  nd : N.Nodup
  pre : N.take P.length = P
  par : ∀ x ∈ P, sc.names.lookup x = some .local ∨ sc.names.lookup x = some .cell
  nofree : ∀ y ∈ sc.names, y.2 ≠ .free

theorem bindL_out {kindOf : Str → Option NameKind} {x : Str} : ∀ {binds : List (Str × Value)} {m : Str → Option Value}, (∀ v, (x, v) ∉ binds) → bindL kindOf binds m x = m x
  | [], _, _ => rfl
  | (n, v) :: r, m, h => by
    unfold bindL
    rw [bindL_out fun w hw => h w (List.mem_cons_of_mem _ hw)]
    split
    · have : x ≠ n := by rintro rfl; exact h v List.mem_cons_self
      simp [this]
    · rfl
theorem bindC_out {kindOf : Str → Option NameKind} {x : Str} : ∀ {binds : List (Str × Value)} {m : Str → Option Value}, (∀ v, (x, v) ∉ binds) → bindC kindOf binds m x = m x
  | [], _, _ => rfl
  | (n, v) :: r, m, h => by
    unfold bindC
    rw [bindC_out fun w hw => h w (List.mem_cons_of_mem _ hw)]
    split
    · rfl
    · have : x ≠ n := by rintro rfl; exact h v List.mem_cons_self
      simp [this]
theorem bindL_get {kindOf : Str → Option NameKind} {x : Str} {v : Value} : ∀ {P : List Str} {vs : List Value} {i : Nat} {m : Str → Option Value}, P.Nodup → P[i]? = some x → vs[i]? = some v → kindOf x = some .local →
    bindL kindOf (P.zip vs) m x = some v
  | [], _, _, _, _, h, _, _ => by simp at h
  | _ :: _, [], _, _, _, _, h, _ => by simp at h
  | p :: P, w :: vs, 0, m, nd, h1, h2, hk => by
    simp at h1 h2; subst h1; subst h2
    show bindL kindOf ((p, w) :: P.zip vs) m p = _
    unfold bindL
    rw [bindL_out fun v hv => (List.nodup_cons.mp nd).1 (List.of_mem_zip hv).1, if_pos hk]
    simp
  | p :: P, w :: vs, i + 1, m, nd, h1, h2, hk => by
    show bindL kindOf ((p, w) :: P.zip vs) m x = _
    unfold bindL
    exact bindL_get (i := i) (List.nodup_cons.mp nd).2 (by simpa using h1) (by simpa using h2) hk
theorem bindC_get {kindOf : Str → Option NameKind} {x : Str} {v : Value} : ∀ {P : List Str} {vs : List Value} {i : Nat} {m : Str → Option Value}, P.Nodup → P[i]? = some x → vs[i]? = some v → kindOf x ≠ some .local →
    bindC kindOf (P.zip vs) m x = some v
  | [], _, _, _, _, h, _, _ => by simp at h
  | _ :: _, [], _, _, _, _, h, _ => by simp at h
  | p :: P, w :: vs, 0, m, nd, h1, h2, hk => by
    simp at h1 h2; subst h1; subst h2
    show bindC kindOf ((p, w) :: P.zip vs) m p = _
    unfold bindC
    rw [bindC_out fun v hv => (List.nodup_cons.mp nd).1 (List.of_mem_zip hv).1, if_neg hk]
    simp
  | p :: P, w :: vs, i + 1, m, nd, h1, h2, hk => by
    show bindC kindOf ((p, w) :: P.zip vs) m x = _
    unfold bindC
    exact bindC_get (i := i) (List.nodup_cons.mp nd).2 (by simpa using h1) (by simpa using h2) hk

/-- the names' values at the entry -/
def start (N : List Str) (vs : List V) : St := vs.map some ++ List.replicate (N.length - vs.length) none

/-- the context of a def's body, at its entry; an exception leaves the frame, then lies as CX says -/
def cxOf (CX : CXT) (P : Program) (w : World) (K : PySem.W.Frag) (mg : Str → Option Value) (base : Heap) (N : List Str) (qual : Str) (scope : Scope) (f : Addr) (cd : Value) (A : Around) (outer : List Env) (s : Shared) (H : Hp) (E : XK) : Cx where
  prog := P
  w := w
  K := K
  mg := mg
  base := base
  A := A.deeper (envOfC qual scope s.heap.objs.size f cd)
  N := N
  s₀ := s
  H₀ := H
  env := envOfC qual scope s.heap.objs.size f cd
  outer := outer
  stack := envOfC qual scope s.heap.objs.size f cd :: outer
  ex := []
  calm := true
  fn := fun _ => true
  pn := []
  xe := fun e s' => wpAny (model P w) (A.deeper (envOfC qual scope s.heap.objs.size f cd)) (leaving (envOfC qual scope s.heap.objs.size f cd) e) (fun _ s'' => CX outer H s E e s'') (fun e' s'' => CX outer H s E e' s'') s'

theorem cell_has {sc : Scope} {n : Nat} {x : Str} (h : sc.names.lookup x = some .cell) : ∃ c, (cellsFrom n sc.names []).lookup x = some c := by
  have q := PySem.W.cellsFrom_some sc.names n [] (.inl h)
  exact Option.isSome_iff_exists.mp q

theorem inv_start {CX : CXT} {P : Program} {w : World} {K : PySem.W.Frag} {mg : Str → Option Value} {base : Heap} {N ps : List Str} {qual : Str} {scope : Scope} {f : Addr} {cd : Value} {A : Around} {outer : List Env} {s s1 : Shared} {H : Hp} {E : XK} {us : List Value} {vs : List V}
    (S : FnScope N ps scope) (hd : A.handled = none) (e0 : Env0 P w K mg base A outer s H) (hl : vs.length = ps.length) (r : Vals vs us)
    (x : InCallC s s.heap.objs.size (bindL (envOfC qual scope s.heap.objs.size f cd).kindOf (ps.zip us) fun _ => none) (cellsFrom (s.heap.objs.size + 1) scope.names []) (bindC (envOfC qual scope s.heap.objs.size f cd).kindOf (ps.zip us) fun _ => none) s1) :
    Inv (cxOf CX P w K mg base N qual scope f cd A outer s H E) [] (start N vs) H s1 := by
  have hpl : ps.length ≤ N.length := by have := congrArg List.length S.pre; rw [List.length_take] at this; omega
  obtain ⟨h1, tk, rfl, hk⟩ := x.done
  have noA : ∀ b : Addr, b ∉ (cxOf CX P w K mg base N qual scope f cd A outer s H E).ex := fun b z => absurd (show b ∈ ([] : List Addr) from z) (by simp)
  refine ⟨⟨e0.mod, S.kind, rfl, rfl, Nat.le_refl _, fun y z c h1 h2 => ?_, fun y hy => ?_, fun y c _ h => ?_, fun _ => hd, Around.frames_deeper e0.frames, .inr ⟨rfl, rfl⟩, fun b z => absurd z (noA b), e0.bs, e0.bsz, fun b _ _ => noA b, fun b z => absurd z (noA b), e0.funs, e0.frf⟩,
    rfl, e0.bare, Un.kept hk, ⟨_, x.toInCall.ns, fun i y v h1 h2 h3 => ?_⟩, fun y c h => ⟨_, x.cell y c h⟩, e0.hok.fresh (Nat.le_refl _), fun y c h => ?_, fun p hp => absurd (show p ∈ ([] : List (Addr × Obj)) from hp) (by simp), e0.hok.kept hk, ?_⟩
  · exact name_of_addr x.apart (PySem.mem_of_lookup h1) (PySem.mem_of_lookup h2)
  · have hy : scope.names.lookup y = some .cell ∨ scope.names.lookup y = some .free := hy
    rcases hy with hy | hy
    · exact cell_has hy
    · exact absurd rfl (S.nofree _ (PySem.mem_of_lookup hy))
  · exact Nat.le_of_lt (x.above y c (PySem.mem_of_lookup h))
  · have hi : i < vs.length := by
      unfold start at h2
      by_cases hi : i < vs.length
      · exact hi
      · rw [List.getElem?_append_right (by simpa using hi)] at h2
        rw [List.getElem?_replicate] at h2
        split at h2 <;> cases h2
    have ha : vs[i]? = some v := by
      unfold start at h2
      rw [List.getElem?_append_left (by simpa using hi), List.getElem?_map] at h2
      cases e : vs[i]? with
      | none => rw [e] at h2; cases h2
      | some a => rw [e] at h2; cases h2; rfl
    obtain ⟨u, hu, rv⟩ := r.get ha
    have hp : ps[i]? = some y := by
      rw [← S.pre, List.getElem?_take_of_lt (by omega)]; exact h1
    have ndP : ps.Nodup := by rw [← S.pre]; exact S.nd.sublist (List.take_sublist _ _)
    refine ⟨u, rv, ?_⟩
    rcases S.par y (List.mem_of_getElem? hp) with k | k
    · exact .inl ⟨k, bindL_get ndP hp hu k⟩
    · obtain ⟨c, e⟩ := cell_has (n := s.heap.objs.size + 1) k
      refine .inr ⟨.inl k, c, e, ?_⟩
      have q := x.cell y c e
      rw [bindC_get ndP hp hu (by show scope.names.lookup y ≠ _; rw [k]; decide)] at q
      exact q
  · exact e0.hok.fresh (Nat.le_of_lt (x.above y c (PySem.mem_of_lookup h)))
  · unfold start
    show _ = N.length
    rw [List.length_append, List.length_map, List.length_replicate]
    omega

/-- THE RULE: a def (or a method) of the text, by its body. The body's reading t is chosen for each entry; it is run at the parameters' values -/
theorem fn_of {CX : CXT} {P : Program} {w : World} {K : PySem.W.Frag} {mg : Str → Option Value} {base : Heap} {k : Nat} {f : Addr} {name qual : Str} {params : Arguments} {body : List Stmt} {scope : Scope} {dV kV doc pm cdv ct oc : Value} {an od : Option Addr}
    {osl : Array (Option Value)} {N ps : List Str} {sp : Sp} (lk : K.lookup f = some ⟨oc, od, .func (PySem.W.fnOf name qual params body scope dV kV doc pm an cdv ct), osl⟩) (hcd : PySem.W.codeIn K cdv qual = true) (S : FnScope N ps scope)
    (len : ∀ vs H Q E, sp vs H Q E → vs.length = ps.length)
    (hbody : ∀ (A : Around) (outer : List Env) (s : Shared) (H : Hp) (vs : List V) (Q : VK) (E : XK), Room k (A.deeper (envOfC qual scope s.heap.objs.size f cdv)) → sp vs H Q E →
      ∃ t, PSs (cxOf CX P w K mg base N qual scope f cdv A outer s H E) body t ∧ t { nx := fun _ H' => Q .non H', rt := Q } (start N vs) H) :
    FnOk P w K mg base CX (k + 1) f (PySem.W.fnOf name qual params body scope dV kV doc pm an cdv ct) ps sp := by
  refine ⟨len, fun A outer s H args us vs Q E hr e0 hb r hsp => ?_⟩
  have hl := len _ _ _ _ hsp
  have KX : K.In s.heap := e0.mod.kin.keeps fun b o e => (e0.bs b o e).1
  have lim : s.heap.NoLimit := e0.mod.nolimit.keeps fun b o e => (e0.bs b o e).1
  have hkind : ∀ y ∈ ps.zip us, scope.names.lookup y.1 = some .local ∨ (scope.names.lookup y.1 = some .cell ∧ ((cellsFrom (s.heap.objs.size + 1) scope.names []).lookup y.1).isSome = true) := fun ⟨n, v⟩ hy => by
    rcases S.par n (List.of_mem_zip hy).1 with q | q
    · exact .inl q
    · exact .inr ⟨q, PySem.W.cellsFrom_some _ _ _ (.inl q)⟩
  refine codeAny_call_function hr.depth (KX _ _ lk) rfl S.co S.gen rfl (PySem.W.codeRec_of KX hcd) (hb _ _ _ _ ?_)
  refine wpAny_newFunctionEnv_cells S.kind hkind fun env he s1 x => ?_
  subst he
  refine ⟨lim.keeps x.toInCall.keep, codeAny_func ?_⟩
  obtain ⟨t, ht, hq⟩ := hbody A outer s H vs Q E (hr.deeper _) hsp
  have I : Inv (cxOf CX P w K mg base N qual scope f cdv A outer s H E) [] (start N vs) H s1 := inv_start S hr.hd e0 hl r x
  refine wpAny_mono (ht [] s1 (start N vs) H _ I hq) (fun fl s' hs => ?_) fun e s' hs => hs
  have fin : ∀ {σ' : St} {H' : Hp} {v : V} {u : Value}, Inv (cxOf CX P w K mg base N qual scope f cdv A outer s H E) [] σ' H' s' → RelV v u → Q v H' → CE outer P w H s Q u s' :=
    fun {σ' H' v u} J rv q => ⟨v, H', J.os, J.bare, J.base, J.hok, rv, q⟩
  cases fl with
  | ret u =>
    obtain ⟨v, σ', H', J, rv, q⟩ := hs
    exact fin J rv q
  | next =>
    obtain ⟨σ', H', J, q⟩ := hs
    exact fin (v := V.non) (u := Value.none) J rfl q
  | brk =>
    obtain ⟨_, _, _, q⟩ := hs
    exact False.elim q
  | cont =>
    obtain ⟨_, _, _, q⟩ := hs
    exact False.elim q
end L2

namespace L2
open PySem PySem.Spec PyProof.Rows
section
variable {X : Cx} {x : Str} {p pos : Pos} {e : Expr} {es : List Expr} {t : TA} {id T : String} {r : List V → Hp → VK → Prop}

def tCB (r : List V → Hp → VK → Prop) (t : TA) : TE := fun σ H Q => t σ H fun vs H1 => r vs H1 Q
/-- f(e, ..), f a built-in function -/
theorem pe_callB (hc : CallR X (.builtin id) r) (hg : Gl X x) (hm : X.mg x = none) (hv : bootBuiltins x = some (.builtin id)) (ha : PA X (e :: es) t) (hn : x ≠ "__name__" := by decide) (hdb : (x == ("__debug__" : Str)) = false := by decide)
    (he : starEach (e :: es) X.env = (false, eval e X.env) :: starEach es X.env := by rfl) (hpl : (backTo pos (starEach es X.env)).any (·.1) = false := by rfl) : PE X (.Call (.Name x p) (e :: es) [] pos) (tCB r t) := by
  intro pins s σ H Q I h
  refine wpAny_Call_Name_kw (ld_blt I hg hm hv ?_ hn hdb)
  exact PyProof.Rows.callWith_builtin1 (thn (ha pos pins s σ H _ I h) fun us s1 ⟨vs, H1, I1, r1, q1⟩ => hc pins s1 σ H1 vs us Q I1 r1 q1) he hpl
/-- T(e, ..), T a built-in type -/
theorem pe_callTy (hc : CallR X (.type T) r) (hg : Gl X x) (hm : X.mg x = none) (hv : bootBuiltins x = some (.type T)) (ha : PA X (e :: es) t) (hn : x ≠ "__name__" := by decide) (hdb : (x == ("__debug__" : Str)) = false := by decide)
    (he : starEach (e :: es) X.env = (false, eval e X.env) :: starEach es X.env := by rfl) (hpl : (backTo pos (starEach es X.env)).any (·.1) = false := by rfl) : PE X (.Call (.Name x p) (e :: es) [] pos) (tCB r t) := by
  intro pins s σ H Q I h
  refine wpAny_Call_Name_kw (ld_blt I hg hm hv ?_ hn hdb)
  exact PyProof.Rows.callWith_type1 (thn (ha pos pins s σ H _ I h) fun us s1 ⟨vs, H1, I1, r1, q1⟩ => hc pins s1 σ H1 vs us Q I1 r1 q1) he hpl
/-- T() -/
theorem pe_callTy0 (hc : CallR X (.type T) r) (hg : Gl X x) (hm : X.mg x = none) (hv : bootBuiltins x = some (.type T)) (hn : x ≠ "__name__" := by decide) (hdb : (x == ("__debug__" : Str)) = false := by decide) :
    PE X (.Call (.Name x p) [] [] pos) (tCB r tNil) := by
  intro pins s σ H Q I h
  refine wpAny_Call_Name_kw (ld_blt I hg hm hv ?_ hn hdb)
  exact PyProof.Rows.callWith_type0 (hc pins s σ H [] [] Q I .nil h)
end
end L2

namespace HT
open PySem PyProof.Rows

/-- t < u of tuples of ints -/
def lexLt : List Int → List Int → Bool
  | [], [] => false
  | [], _ :: _ => true
  | _ :: _, [] => false
  | x :: xs, y :: ys => if x = y then lexLt xs ys else decide (x < y)
theorem lexLt_cons (x y : Int) (xs ys : List Int) : lexLt (x :: xs) (y :: ys) = if x = y then lexLt xs ys else decide (x < y) := rfl
theorem lexLt_nil_nil : lexLt [] [] = false := rfl
theorem lexLt_nil_cons (y : Int) (ys : List Int) : lexLt [] (y :: ys) = true := rfl
theorem lexLt_cons_nil (x : Int) (xs : List Int) : lexLt (x :: xs) [] = false := rfl

theorem eqAt_int (A : Around) (s : Shared) (a : Int) (t : Tok) (c : Int) (u : Tok) : ∃ e, SeqAt.EqAt A s (.int a t) (.int c u) e ∧ (e = true ↔ a = c) :=
  ⟨(a == c), SeqAt.EqAt.int_int a t c u, by simp⟩
theorem rcLt_int (A : Around) (s : Shared) (a : Int) (t : Tok) (c : Int) (u : Tok) (prog : Program) (w : World) (E : Value → Shared → Prop) (Q : Value → Shared → Prop) (h : Q (.bool (decide (a < c))) s) :
    wpAny (model prog w) A (richCompare .Lt (.int a t) (.int c u)) Q E s :=
  (PyProof.Rows.lt_int h : wpAny (model prog w) A (compareOp .Lt (.int a t) (.int c u)) Q E s)

section
open PySem.SeqAt
open PySem.AutoSeq1 (wpAny_loadPart')
open PySem.MeetsSeq PySem.MeetsSeq2 PySem.MeetsSeq3

theorem tuple_lt_ints (l b : Addr) (items items2 : Array Value) (n n2 : Nat) (dd dd2 : Option Addr) (sl sl2 : Array (Option Value)) (ns ms : List Int) (hi : IntsAre items.toList ns) (hj : IntsAre items2.toList ms) :
    Meets (Builtin.«tuple.__lt__» ⟨[.ref l, .ref b], []⟩)
      (fun _ R s => s.heap.get? l = some { cls := .type "tuple", dict := dd, data := .seq items n, slots := sl } ∧ s.heap.get? b = some { cls := .type "tuple", dict := dd2, data := .seq items2 n2, slots := sl2 } ∧
        R (.ok (.ret (.bool (lexLt ns ms)))) s) :=
  .of_wp fun prog w A R s h => by
    obtain ⟨hp, g, d, tk, os⟩ := s; obtain ⟨hl, hb, h⟩ := h
    have f2 := AutoSeq1.sub_tuple_tuple
    have z1 : items.size = ns.length := by rw [← hi.length]; simp
    have z2 : items2.size = ms.length := by rw [← hj.length]; simp
    wp_walk using wpAny_loadPart' hl, wpAny_loadPart' hb, wpAny_forIn_list _ (fun rest b s' => b.1 = none ∧ s' = ⟨hp, g, d, tk, os⟩ ∧ ∃ (vs ws : List Value) (ns' ms' : List Int), rest = vs.zip ws ∧
      IntsAre vs ns' ∧ IntsAre ws ms' ∧ ns'.length + items2.size = ms'.length + items.size ∧ R (.ok (.ret (.bool (lexLt ns' ms')))) ⟨hp, g, d, tk, os⟩) _
    case turn =>
      rintro ⟨y, x⟩ rest b s' ⟨hb', rfl, vs, ws, ns', ms', hz, hvi, hwi, hlen, hR⟩
      cases hvi with
      | nil => rw [List.zip_nil_left] at hz; cases hz
      | cons a t hvi' =>
        cases hwi with
        | nil => rw [List.zip_nil_right] at hz; cases hz
        | cons c u hwi' =>
          rw [List.zip_cons_cons] at hz
          injection hz with hyx hrest
          injection hyx with hy hx
          subst hy hx
          rw [lexLt_cons] at hR
          simp only [List.length_cons] at hlen
          obtain ⟨e, he, hiff⟩ := eqAt_int A.in1 ⟨hp, g, d, tk, os⟩ a t c u
          refine wpAny_bind (he prog w _ _ ?_)
          cases e with
          | true =>
            rw [if_pos (hiff.mp rfl)] at hR
            wp_walk
            exact ⟨rfl, rfl, _, _, _, _, hrest, hvi', hwi', by omega, hR⟩
          | false =>
            rw [if_neg (fun q => absurd (hiff.mpr q) Bool.false_ne_true)] at hR
            have hri := rcLt_int A.in1 ⟨hp, g, d, tk, os⟩ a t c u prog w
            wp_walk using hri
            exact ⟨_, rfl, by simpa using hR⟩
    case fin =>
      rintro ⟨b1, b2⟩ s' ⟨hb', rfl, vs, ws, ns', ms', hz, hvi, hwi, hlen, hR⟩
      simp only at hb'
      subst hb'
      have hv : lexLt ns' ms' = decide (items.size < items2.size) := by
        cases hvi with
        | nil =>
          cases hwi with
          | nil =>
            simp only [List.length_nil] at hlen
            rw [lexLt_nil_nil]
            exact (decide_eq_false (by omega)).symm
          | cons c u hw =>
            simp only [List.length_nil, List.length_cons] at hlen
            rw [lexLt_nil_cons]
            exact (decide_eq_true (by omega)).symm
        | cons a t hv =>
          cases hwi with
          | nil =>
            simp only [List.length_nil, List.length_cons] at hlen
            rw [lexLt_cons_nil]
            exact (decide_eq_false (by omega)).symm
          | cons c u hw =>
            rw [List.zip_cons_cons] at hz
            cases hz
      rw [hv] at hR
      wp_walk
      exact ⟨_, rfl, by simpa [Builtin.Tuple.tupleCompareSizes] using hR⟩
    case h =>
      exact ⟨rfl, rfl, items.toList, items2.toList, ns, ms, rfl, hi, hj, by omega, h⟩
end

section
variable {prog : Program} {w : World} {A : Around} {E : Value → Shared → Prop} {s : Shared}

theorem lt_tupInts {l b : Addr} {items items2 : Array Value} {ns ms : List Int} {Q : Value → Shared → Prop} (hl : IsTup s.heap l items) (hb : IsTup s.heap b items2) (hi : IntsAre items.toList ns) (hj : IntsAre items2.toList ms)
    (hu : A.units < cLine) (h : Q (.bool (lexLt ns ms)) s) : wpAny (model prog w) A (compareOp .Lt (.ref l) (.ref b)) Q E s := by
  obtain ⟨⟨cls, dd, data, sl⟩, ho, hc, n, hd⟩ := id hl
  obtain ⟨⟨cls2, dd2, data2, sl2⟩, ho2, hc2, n2, hd2⟩ := id hb
  simp only at hc hd hc2 hd2
  subst hc hd hc2 hd2
  exact richCompare_meets_room (op := .Lt) ⟨_, ho, rfl⟩ ⟨_, ho2, rfl⟩ PySem.F.slot_tuple_lt PySem.F.entry_tuple_lt (PySem.F.args_tuple_lt_2 _ _) (tuple_lt_ints l b items items2 n n2 dd dd2 sl sl2 ns ms hi hj)
    ⟨ho, ho2, show Value.bool (lexLt ns ms) ≠ Value.notImplemented ∧ Q (.bool (lexLt ns ms)) s from ⟨(fun x => nomatch x), h⟩⟩ hu

/-- t + u, t not empty -/
theorem cat_tup {t b : Addr} {vs ws : List Value} {Q : Value → Shared → Prop} (ht : IsTup s.heap t vs.toArray) (hb : IsTup s.heap b ws.toArray) (hv : vs ≠ [])
    (h1 : ws = [] → Q (.ref t) s) (h2 : ws ≠ [] → Q (.ref s.heap.objs.size) { s with heap := s.heap.push { cls := .type "tuple", data := .seq (vs ++ ws).toArray } })
    (hsz : vs.length + ws.length ≤ sizeLine) : wpAny (model prog w) A (binaryOp .Add (.ref t) (.ref b)) Q E s := by
  obtain ⟨⟨cls, dd, data, sl⟩, ho, hc, n, hd⟩ := id ht
  obtain ⟨⟨cls2, dd2, data2, sl2⟩, ho2, hc2, n2, hd2⟩ := id hb
  simp only at hc hd hc2 hd2
  subst hc hd hc2 hd2
  have e : vs.toArray ++ ws.toArray = (vs ++ ws).toArray := by simp
  by_cases hw : ws = []
  · exact concat_meets ⟨_, ho, rfl⟩ ⟨_, ho2, rfl⟩ noFill_tuple_add seq_tuple_add PySem.F.slot_tuple_add PySem.F.entry_tuple_add (PySem.F.args_tuple_add_2 _ _)
      (tuple_addW1 t b vs.toArray ws.toArray n n2 dd dd2 sl sl2 (by simpa using hv) (by simp [hw])) ⟨ho, ho2, h1 hw⟩
  · refine concat_meets ⟨_, ho, rfl⟩ ⟨_, ho2, rfl⟩ noFill_tuple_add seq_tuple_add PySem.F.slot_tuple_add PySem.F.entry_tuple_add (PySem.F.args_tuple_add_2 _ _)
      (tuple_addW2 t b vs.toArray ws.toArray n n2 dd dd2 sl sl2 (by simpa using hv) (by simpa using hw) (by rw [List.size_toArray, List.size_toArray]; exact hsz)) ⟨ho, ho2, ?_⟩
    rw [e]
    exact h2 hw

/-! ### t[a:b], not the whole -/
/-- a slice's bound as a place among n (d where it is left out) -/
def sIx (n d : Nat) : Option Int → Nat
  | none => d
  | some v => if v < 0 then (v + (n : Int)).toNat else min v.toNat n
theorem sIx_none (n d : Nat) : sIx n d none = d := rfl
theorem sIx_nat (n d k : Nat) : sIx n d (some (k : Int)) = min k n := by
  show (if (k : Int) < 0 then ((k : Int) + (n : Int)).toNat else min (k : Int).toNat n) = min k n
  rw [if_neg (by omega), Int.toNat_natCast]
theorem sIx_le (n d : Nat) (hd : d ≤ n) (o : Option Int) : sIx n d o ≤ n := by
  cases o with
  | none => exact hd
  | some v =>
    show (if v < 0 then (v + (n : Int)).toNat else min v.toNat n) ≤ n
    by_cases hv : v < 0
    · rw [if_pos hv]; omega
    · rw [if_neg hv]; exact Nat.min_le_right _ _
theorem clip_eq (v : Int) (n d : Nat) : (if v < 0 then max (v + (n : Int)) 0 else min v (n : Int)) = ((sIx n d (some v) : Nat) : Int) := by
  show (if v < 0 then max (v + (n : Int)) 0 else min v (n : Int)) = (((if v < 0 then (v + (n : Int)).toNat else min v.toNat n) : Nat) : Int)
  by_cases hv : v < 0
  · simp only [if_pos hv]; omega
  · simp only [if_neg hv]; omega
theorem adjust_gen (lo hi : Option Int) (n : Nat) : Builtin.Slice.sliceAdjust lo hi 1 (n : Int) = (((sIx n 0 lo : Nat) : Int), ((sIx n n hi : Nat) : Int)) := by
  have h1 : ¬ ((1 : Int) < 0) := by omega
  unfold Builtin.Slice.sliceAdjust
  simp only [h1, if_false]
  refine Prod.ext ?_ ?_
  · cases lo with
    | none => rfl
    | some v => exact clip_eq v n 0
  · cases hi with
    | none => rfl
    | some v => exact clip_eq v n n
theorem places_gen (i j : Nat) : Builtin.Slice.slicePlaces (i : Int) (j : Int) 1 = j - i := by
  unfold Builtin.Slice.slicePlaces
  have h1 : (1 : Int) > 0 := by omega
  simp only [h1, if_true, Int.ediv_one]
  split <;> omega
theorem slicePart_ {v : Value} {o : Option Int} {Q : Option Int → Shared → Prop} (p : IsPart v o) (h : Q o s) : wpAny (model prog w) A (Builtin.Slice.slicePartIndex v) Q E s := by
  cases p with
  | none => exact slicePart_none h
  | int i t => exact slicePart_int h
theorem sliceApplied_gen {sl : Addr} {vl vu : Value} {lo hi : Option Int} {n : Nat} {Q : Int × Int × Nat → Shared → Prop} (hs : s.heap.IsSliceOf sl vl vu .none) (pl : IsPart vl lo) (pu : IsPart vu hi)
    (h : Q (((sIx n 0 lo : Nat) : Int), 1, sIx n n hi - sIx n 0 lo) s) : wpAny (model prog w) A (Builtin.Slice.sliceApplied (.ref sl) (pure (n : Int))) Q E s := by
  obtain ⟨os, hos, hcs, hds⟩ := id hs
  unfold Builtin.Slice.sliceApplied Builtin.Slice.sliceFields
  refine wpAny_bind (wpAny_bind (wpAny_field hos hds (x := vl) rfl (wpAny_bind (wpAny_field hos hds (x := vu) rfl (wpAny_bind (wpAny_field hos hds (x := .none) rfl (wpAny_pure ?_)))))))
  refine wpAny_bind (slicePart_none ?_)
  show wpAny _ _ (if ((1 : Int) == 0) = true then _ else _) _ _ s
  rw [if_neg (by decide)]
  refine wpAny_bind (slicePart_ pl (wpAny_bind (slicePart_ pu (wpAny_bind (wpAny_pure ?_)))))
  show wpAny _ _ (match Builtin.Slice.sliceAdjust lo hi 1 (n : Int) with | (lo, hi) => pure (lo, (1 : Int), Builtin.Slice.slicePlaces lo hi 1)) _ _ s
  rw [adjust_gen lo hi n]
  show wpAny _ _ (pure (((sIx n 0 lo : Nat) : Int), (1 : Int), Builtin.Slice.slicePlaces ((sIx n 0 lo : Nat) : Int) ((sIx n n hi : Nat) : Int) 1)) _ _ s
  rw [places_gen]
  exact wpAny_pure h
theorem pick_gen (xs : Array Value) (i k : Nat) : ((List.range k).filterMap fun (m : Nat) => xs[((i : Int) + (m : Int) * 1).toNat]?).toArray = ((xs.toList.drop i).take k).toArray := by
  have e : (fun (m : Nat) => xs[((i : Int) + (m : Int) * 1).toNat]?) = fun m => xs[i + m]? := by
    funext m
    have : ((i : Int) + (m : Int) * 1).toNat = i + m := by omega
    rw [this]
  rw [e]
  have := pick_run xs i k
  rw [List.filterMap_map] at this
  have e2 : ((fun x => xs[x]?) ∘ fun x => i + x) = fun m => xs[i + m]? := rfl
  rw [e2] at this
  rw [this]

theorem getItem_tuple_cut {t sl : Addr} {items : Array Value} {vl vu : Value} {lo hi : Option Int} {Q : Value → Shared → Prop} (ht : IsTup s.heap t items) (hs : s.heap.IsSliceOf sl vl vu .none) (pl : IsPart vl lo) (pu : IsPart vu hi)
    (hw : ¬ (sIx items.size 0 lo = 0 ∧ sIx items.size items.size hi = items.size))
    (h : Q (.ref s.heap.objs.size) { s with heap := s.heap.push { cls := .type "tuple", data := .seq ((items.toList.drop (sIx items.size 0 lo)).take (sIx items.size items.size hi - sIx items.size 0 lo)).toArray } })
    (hsz : items.size ≤ sizeLine) : wpAny (model prog w) A (getItem (.ref t) (.ref sl)) Q E s := by
  have htake : sizeOk (.seq ((items.toList.drop (sIx items.size 0 lo)).take (sIx items.size items.size hi - sIx items.size 0 lo)).toArray) := by
    show ((items.toList.drop (sIx items.size 0 lo)).take (sIx items.size items.size hi - sIx items.size 0 lo)).toArray.size ≤ sizeLine
    rw [List.size_toArray, List.length_take, List.length_drop, Array.length_toList]
    omega
  have hj : sIx items.size items.size hi ≤ items.size := sIx_le _ _ (Nat.le_refl _) hi
  obtain ⟨os, hos, hcs, hds⟩ := id hs
  have hTs : s.TypeIs (.ref sl) "slice" := ⟨os, hos, hcs⟩
  unfold getItem
  try with_reducible refine wpAny_holding ?_
  first | refine wpAny_bind (wpAny_pure ?_) | skip
  refine wpAny_bind (wpAny_sequenceKey ht.typeIs (by decide) ?_)
  refine wpAny_bind (wpAny_callSpecial?_slot (name := Str.ofString "__getitem__") ht.typeIs PyProof.Rows.slot_tuple_getitem
    (wpAny_call_entry PyProof.Rows.slot_tuple_getitem ht.typeIs entry_tuple_getitem ?_ (args_tuple_getitem _ _)))
  show wpAny _ _ (Builtin.Tuple.tupleItemsOf (.ref t) >>= _) _ _ s
  refine wpAny_bind (tupleItemsOf_ ht ?_)
  refine wpAny_bind (wpAny_typeOf hTs ?_)
  rw [if_pos (by decide)]
  refine wpAny_bind (sliceApplied_gen hs pl pu ?_)
  have hno : ¬ ((((sIx items.size 0 lo : Nat) : Int) == 0 && (1 : Int) == 1 && (sIx items.size items.size hi - sIx items.size 0 lo) == items.size) = true) := by
    intro q
    rw [Bool.and_eq_true, Bool.and_eq_true] at q
    have q1 : ((sIx items.size 0 lo : Nat) : Int) = 0 := eq_of_beq q.1.1
    have q2 : sIx items.size items.size hi - sIx items.size 0 lo = items.size := eq_of_beq q.2
    exact hw ⟨by omega, by omega⟩
  show wpAny _ _ (if (((sIx items.size 0 lo : Nat) : Int) == 0 && (1 : Int) == 1 && (sIx items.size items.size hi - sIx items.size 0 lo) == items.size) = true then _ else _) _ _ s
  rw [if_neg hno, pick_gen]
  first
    | exact wpAny_bind (m := Builtin.Tuple.tupleExact _) (wpAny_newObj_type (wpAny_pure ⟨_, rfl, wpAny_pure h⟩) htake)
    | exact wpAny_bind (m := Builtin.Tuple.tupleExact _) (wpAny_newObj_type (wpAny_bind (wpAny_pure (wpAny_pure ⟨_, rfl, wpAny_pure h⟩))) htake)
    | exact wpAny_bind (wpAny_bind (m := Builtin.Tuple.tupleExact _) (wpAny_newObj_type (wpAny_pure (wpAny_pure ⟨_, rfl, wpAny_pure h⟩)) htake))
    | exact wpAny_bind (wpAny_bind (m := Builtin.Tuple.tupleExact _) (wpAny_newObj_type (wpAny_pure ⟨_, rfl, wpAny_pure h⟩) htake))
end
end HT

namespace L2
open PySem PySem.Spec PyProof.Rows

/-! ### the parts of a slice -/
abbrev TO := St → Hp → (Option Int → Hp → Prop) → Prop
/-- a slice's part (left out, or an int) -/
def PO (X : Cx) (e : Option Expr) (t : TO) : Prop :=
  ∀ (pins : List (Addr × Obj)) (s : Shared) (σ : St) (H : Hp) (Q : Option Int → Hp → Prop), Inv X pins σ H s → t σ H Q →
    wpAny (model X.prog X.w) X.A (evalPart e X.env) (fun u s' => ∃ o H', Inv X pins σ H' s' ∧ IsPart u o ∧ Q o H') X.xe s
def tNoPart : TO := fun _ H Q => Q none H
def tPart (t : TE) : TO := fun σ H Q => t σ H fun x H1 => ∃ i, x = .int i ∧ Q (some i) H1

theorem intsAre_of {ns : List Int} : ∀ {us : List Value}, Vals (ns.map V.int) us → IntsAre us ns := by
  induction ns with
  | nil => intro us r; rw [List.map_nil] at r; cases r; exact .nil
  | cons n ns ih =>
    intro us r
    rw [List.map_cons] at r
    cases r with
    | cons r1 r2 =>
      obtain ⟨t, e⟩ := r1
      subst e
      exact .cons n t (ih r2)

section
variable {X : Cx} {e : Expr} {te : TE} {lo hi : Option Expr} {tl th : TO} {pos p2 : Pos}

theorem po_none : PO X none tNoPart := by
  intro pins s σ H Q I h
  rw [evalPart_none]
  exact wpAny_pure ⟨none, H, I, .none, h⟩
theorem po_some (h : PE X e te) : PO X (some e) (tPart te) := by
  intro pins s σ H Q I hw
  rw [evalPart_some]
  refine thn (h pins s σ H _ I hw) fun u s1 ⟨x, H1, I1, r1, q1⟩ => ?_
  obtain ⟨i, rfl, q⟩ := q1
  obtain ⟨t, rfl⟩ := r1
  exact ⟨some i, H1, I1, .int i t, q⟩

/-- what a slice of a value is, by values: the slice object stands at sl -/
def SlR (X : Cx) (r : V → Option Int → Option Int → Hp → VK → Prop) : Prop :=
  ∀ (pins : List (Addr × Obj)) (s : Shared) (σ : St) (H : Hp) (x : V) (v vl vu : Value) (lo hi : Option Int) (sl : Addr) (Q : VK), Inv X pins σ H s → RelV x v → s.heap.IsSliceOf sl vl vu .none → IsPart vl lo → IsPart vu hi → r x lo hi H Q →
    ∃ T id, typeLookup (.type T) "__getitem__" = pure (some (.builtin id)) ∧ s.TypeIs v T ∧ wpAny (model X.prog X.w) X.A (getItem v (.ref sl)) (EP X pins σ Q) X.xe s
theorem SlR.or {r r' : V → Option Int → Option Int → Hp → VK → Prop} (h : SlR X r) (h' : SlR X r') : SlR X (fun x lo hi H Q => r x lo hi H Q ∨ r' x lo hi H Q) := by
  intro pins s σ H x v vl vu lo hi sl Q I rx hs pl pu q
  rcases q with q | q
  · exact h pins s σ H x v vl vu lo hi sl Q I rx hs pl pu q
  · exact h' pins s σ H x v vl vu lo hi sl Q I rx hs pl pu q
def tSl (r : V → Option Int → Option Int → Hp → VK → Prop) (te : TE) (tl th : TO) : TE := fun σ H Q => te σ H fun x H1 => tl σ H1 fun l H2 => th σ H2 fun u H3 => r x l u H3 Q
/-- a[lo:hi], any a -/
theorem pe_slice {r : V → Option Int → Option Int → Hp → VK → Prop} (hr : SlR X r) (he : PE X e te) (hl : PO X lo tl) (hu : PO X hi th) : PE X (.Subscript e (.Slice lo hi none p2) pos) (tSl r te tl th) := by
  intro pins s σ H Q I h
  refine Subscript_ (thn (he pins s σ H _ I h) fun v s1 ⟨x, H1, I1, r1, q1⟩ => ?_)
  refine wpAny_Slice (thn (hl pins s1 σ H1 _ I1 q1) fun vl s2 ⟨l, H2, I2, pl, q2⟩ => thn (hu pins s2 σ H2 _ I2 q2) fun vu s3 ⟨u, H3, I3, pu, q3⟩ => ?_)
  rw [evalPart_none]
  refine wpAny_pure ?_
  have I4 : Inv X pins σ H3 { s3 with heap := s3.heap.push { cls := .type "slice", data := .fields #[vl, vu, .none] } } := I3.kept (t' := s3.toks) fun b ob q => Heap.get?_push_of_some _ q
  obtain ⟨T, id, hT, ht, hg⟩ := hr pins { s3 with heap := s3.heap.push { cls := .type "slice", data := .fields #[vl, vu, .none] } } σ H3 x v vl vu l u s3.heap.objs.size Q I4 r1 (Heap.IsSliceOf.new ..) pl pu q3
  show wpAny (model X.prog X.w) X.A (subscriptTail e (.Slice lo hi none p2) v (.ref s3.heap.objs.size)) (EP X pins σ Q) X.xe { s3 with heap := s3.heap.push { cls := .type "slice", data := .fields #[vl, vu, .none] } }
  exact tail_any (ops := [.ref s3.heap.objs.size, v]) ht hT hg (by with_unfolding_all rfl)

/-- the items of xs[lo:hi] -/
def cutV (xs : List V) (lo hi : Option Int) : List V := (xs.drop (HT.sIx xs.length 0 lo)).take (HT.sIx xs.length xs.length hi - HT.sIx xs.length 0 lo)
theorem cutV_length (xs : List V) (lo hi : Option Int) : (cutV xs lo hi).length ≤ xs.length := by
  unfold cutV
  rw [List.length_take, List.length_drop]
  omega
/-- t[lo:hi], not the whole of it (the whole would be t itself) -/
def rSlT (K : PySem.W.Frag) : V → Option Int → Option Int → Hp → VK → Prop := fun x lo hi H Q => ∃ a xs, x = .ref a ∧ SqT K H a xs ∧
  ¬ (HT.sIx xs.length 0 lo = 0 ∧ HT.sIx xs.length xs.length hi = xs.length) ∧ ∀ p, H p = none → Q (.ref p) (upd H p (.tup (cutV xs lo hi)))
theorem sl_tup : SlR X (rSlT X.K) := by
  intro pins s σ H x v vl vu lo hi sl Q I rx hs pl pu h
  obtain ⟨a, xs, rfl, hx, hw, q⟩ := h
  cases rx
  obtain ⟨its, r, ht, hz⟩ := I.tuple hx
  have hlen : its.toArray.size = xs.length := by rw [List.size_toArray]; exact r.length.symm
  refine ⟨"tuple", _, PyProof.Rows.slot_tuple_getitem.lookup, ht.typeIs, ?_⟩
  refine HT.getItem_tuple_cut ht hs pl pu (by rw [hlen]; exact hw) ?_ (by rw [hlen]; exact hz)
  rw [hlen]
  refine ⟨.ref s.heap.objs.size, _, I.laid (t' := s.toks) (o := .tup (cutV xs lo hi)) (fun b ob q => Heap.get?_push_of_some _ q) (Nat.le_refl _) ?_, rfl, q _ (I.hok.fresh (Nat.le_refl _))⟩
  exact ⟨Nat.le_trans (cutV_length xs lo hi) hz, _, (r.drop (HT.sIx xs.length 0 lo)).take (HT.sIx xs.length xs.length hi - HT.sIx xs.length 0 lo), IsTup.new _ _⟩

/-! ### t < u, t + u -/
def rLtT (K : PySem.W.Frag) : R2 := fun x y H Q => ∃ a b ns ms, x = .ref a ∧ y = .ref b ∧ SqT K H a (ns.map V.int) ∧ SqT K H b (ms.map V.int) ∧ Q (.bl (HT.lexLt ns ms)) H
theorem op_ltT (hu : X.A.units < cLine) : OpR X (compareOp .Lt) (rLtT X.K) := by
  intro pins s σ H x y v u Q I rx ry h
  obtain ⟨a, b, ns, ms, rfl, rfl, ha, hb, q⟩ := h
  cases rx
  cases ry
  obtain ⟨its, r1, p1, _⟩ := I.tuple ha
  obtain ⟨its2, r2, p2, _⟩ := I.tuple hb
  have i1 : IntsAre its.toArray.toList ns := intsAre_of r1
  have i2 : IntsAre its2.toArray.toList ms := intsAre_of r2
  exact HT.lt_tupInts p1 p2 i1 i2 hu ⟨.bl (HT.lexLt ns ms), H, I, rfl, q⟩
/-- t + u, t not empty: u empty gives t itself -/
def rCatT (K : PySem.W.Frag) : R2 := fun x y H Q => ∃ a b xs ys, x = .ref a ∧ y = .ref b ∧ SqT K H a xs ∧ SqT K H b ys ∧ xs ≠ [] ∧ xs.length + ys.length ≤ sizeLine ∧
  (ys = [] → Q (.ref a) H) ∧ (ys ≠ [] → ∀ p, H p = none → Q (.ref p) (upd H p (.tup (xs ++ ys))))
theorem Vals.nil_iff {xs : List V} {us : List Value} (r : Vals xs us) : us = [] ↔ xs = [] := by
  cases r with
  | nil => simp
  | cons _ _ => simp
theorem op_catT : OpR X (binaryOp .Add) (rCatT X.K) := by
  intro pins s σ H x y v u Q I rx ry h
  obtain ⟨a, b, xs, ys, rfl, rfl, ha, hb, hx, hz, q1, q2⟩ := h
  cases rx
  cases ry
  obtain ⟨its, r1, p1, _⟩ := I.tuple ha
  obtain ⟨its2, r2, p2, _⟩ := I.tuple hb
  refine HT.cat_tup p1 p2 (fun z => hx (r1.nil_iff.mp z)) (fun z => ⟨.ref a, H, I, rfl, q1 (r2.nil_iff.mp z)⟩) (fun z => ?_) (by rw [← r1.length, ← r2.length]; exact hz)
  refine ⟨.ref s.heap.objs.size, _, I.laid (t' := s.toks) (o := .tup (xs ++ ys)) (fun b ob q => Heap.get?_push_of_some _ q) (Nat.le_refl _) ?_, rfl, q2 (fun w => z (r2.nil_iff.mpr w)) _ (I.hok.fresh (Nat.le_refl _))⟩
  exact ⟨by rw [List.length_append]; exact hz, _, r1.append r2, IsTup.new _ _⟩
/-- tuple(t) -/
theorem call_tupleT : CallR X (.type "tuple") (fun xs H Q => ∃ a ys, xs = [.ref a] ∧ SqT X.K H a ys ∧ Q (.ref a) H) := by
  intro pins s σ H xs us Q I r h
  obtain ⟨a, ys, rfl, ha, q⟩ := h
  obtain ⟨u, rfl, ru⟩ := vals1 r
  cases ru
  obtain ⟨its, _, p1, _⟩ := I.tuple ha
  exact call_tuple_same (items := its.toArray) p1 ⟨.ref a, H, I, rfl, q⟩
end
end L2

namespace L2
open PySem PySem.Spec PyProof.Rows

/-! ### places -/
/-- the place that an index of any sign means -/
def ixN (n : Nat) (i : Int) : Option Nat := if 0 ≤ i then (if i < n then some i.toNat else none) else if -(n : Int) ≤ i then some (i + n).toNat else none
def atI {α : Type} (xs : List α) (i : Int) : Option α := (ixN xs.length i).bind fun j => xs[j]?
theorem ixN_seq {n : Nat} {i : Int} {j : Nat} (h : ixN n i = some j) : seqIndex? i n = some j ∧ j < n ∧ -(n : Int) ≤ i ∧ i < n := by
  unfold ixN at h
  by_cases h0 : 0 ≤ i
  · rw [if_pos h0] at h
    by_cases h1 : i < n
    · rw [if_pos h1] at h
      have e : i.toNat = j := Option.some.inj h
      exact ⟨by rw [seqIndex_of h0 h1, e], by omega, by omega, h1⟩
    · rw [if_neg h1] at h; cases h
  · rw [if_neg h0] at h
    by_cases h1 : -(n : Int) ≤ i
    · rw [if_pos h1] at h
      have e : (i + n).toNat = j := Option.some.inj h
      exact ⟨by rw [seqIndex_neg (by omega) h1, e], by omega, h1, by omega⟩
    · rw [if_neg h1] at h; cases h
theorem atI_get {α : Type} {xs : List α} {i : Int} {v : α} (h : atI xs i = some v) : ∃ j, seqIndex? i xs.length = some j ∧ xs[j]? = some v ∧ j < xs.length ∧ -(xs.length : Int) ≤ i ∧ i < xs.length := by
  unfold atI at h
  cases e : ixN xs.length i with
  | none => rw [e] at h; cases h
  | some j =>
    rw [e] at h
    obtain ⟨h1, h2, h3, h4⟩ := ixN_seq e
    exact ⟨j, h1, h, h2, h3, h4⟩
theorem atI_nat {α : Type} {xs : List α} {j : Nat} {v : α} (h : xs[j]? = some v) : atI xs (j : Int) = some v := by
  have hj : j < xs.length := (List.getElem?_eq_some_iff.mp h).1
  have e : ixN xs.length (j : Int) = some j := by
    unfold ixN
    rw [if_pos (by omega), if_pos (by omega)]; simp
  unfold atI; rw [e]; exact h
theorem atI_last {α : Type} (xs : List α) (v : α) : atI (xs ++ [v]) (-1) = some v := by
  have hl : (xs ++ [v]).length = xs.length + 1 := by simp
  have e : ixN (xs ++ [v]).length (-1) = some xs.length := by
    unfold ixN
    rw [hl, if_neg (by decide), if_pos (by omega)]
    congr 1
    omega
  unfold atI
  rw [e]
  show (xs ++ [v])[xs.length]? = some v
  simp

/-! ### what may be subscripted -/
/-- what stands as an index of a plain subscript -/
def PlainIx (b : Expr) : Prop := ∀ o i, subscripted b false o i = operate [o, i] (getItem o i)
/-- a subscript by values -/
def IxR (X : Cx) (r : R2) : Prop :=
  ∀ (value slice : Expr) (pins : List (Addr × Obj)) (s : Shared) (σ : St) (H : Hp) (x y : V) (v u : Value) (Q : VK), Inv X pins σ H s → RelV x v → RelV y u → r x y H Q →
    subscripted slice false v u = operate [v, u] (getItem v u) → wpAny (model X.prog X.w) X.A (subscriptTail value slice v u) (EP X pins σ Q) X.xe s
/-- a call of a builtin's method by values: the receiver, the arguments -/
def MtR (X : Cx) (id : String) (r : V → List V → Hp → VK → Prop) : Prop :=
  ∀ (pins : List (Addr × Obj)) (s : Shared) (σ : St) (H : Hp) (x : V) (xs : List V) (v : Value) (us : List Value) (Q : VK), Inv X pins σ H s → RelV x v → Vals xs us → r x xs H Q →
    wpAny (model X.prog X.w) X.A (call (.builtin id) (v :: us)) (EP X pins σ Q) X.xe s
section
variable {X : Cx} {a b : Expr} {ta tb : TE} {pos : Pos}
theorem IxR.or {r r' : R2} (h : IxR X r) (h' : IxR X r') : IxR X (fun x y H Q => r x y H Q ∨ r' x y H Q) := by
  intro value slice pins s σ H x y v u Q I rx ry q hs
  rcases q with q | q
  · exact h value slice pins s σ H x y v u Q I rx ry q hs
  · exact h' value slice pins s σ H x y v u Q I rx ry q hs
theorem MtR.or {id : String} {r r' : V → List V → Hp → VK → Prop} (h : MtR X id r) (h' : MtR X id r') : MtR X id (fun x xs H Q => r x xs H Q ∨ r' x xs H Q) := by
  intro pins s σ H x xs v us Q I rx rs q
  rcases q with q | q
  · exact h pins s σ H x xs v us Q I rx rs q
  · exact h' pins s σ H x xs v us Q I rx rs q
/-- a[b] -/
theorem pe_ix {r : R2} (hr : IxR X r) (ha : PE X a ta) (hb : PE X b tb) (hs : PlainIx b) : PE X (.Subscript a b pos) (tOp r ta tb) := by
  intro pins s σ H Q I h
  exact Subscript_ (binT ha hb I h fun v u s2 x y H2 I2 rx ry q => hr a b pins s2 σ H2 x y v u Q I2 rx ry q (hs _ _))

def rIxL (K : PySem.W.Frag) : R2 := fun x y H Q => ∃ p xs i v, x = .ref p ∧ y = .int i ∧ SqL K H p xs ∧ atI xs i = some v ∧ Q v H
def rIxT (K : PySem.W.Frag) : R2 := fun x y H Q => ∃ p xs i v, x = .ref p ∧ y = .int i ∧ SqT K H p xs ∧ atI xs i = some v ∧ Q v H
def rIxS : R2 := fun x y H Q => ∃ z i c, x = .str z ∧ y = .int i ∧ z.length ≤ sizeLine ∧ atI z.cps.toList i = some c ∧ Q (.str ⟨#[c]⟩) H
theorem ix_list : IxR X (rIxL X.K) := by
  intro value slice pins s σ H x y v u Q I rx ry h hs
  obtain ⟨p, xs, i, z, rfl, rfl, hq, he, q⟩ := h
  cases rx
  obtain ⟨t, rfl⟩ := ry
  obtain ⟨its, r, pl, hz⟩ := I.list hq
  obtain ⟨j, h1, h2, h3, h4, h5⟩ := atI_get he
  obtain ⟨w, ew, rw'⟩ := r.get h2
  have hl := r.length
  have hn := line63
  have fin : EP X pins σ Q w s := ⟨z, H, I, rw', q⟩
  by_cases h0 : 0 ≤ i
  · have hj : i.toNat = j := by
      rw [seqIndex_of h0 h5] at h1
      exact Option.some.inj h1
    exact item_listR pl.isList h0 (by omega) (by rw [hj]; simpa using ew) fin hs
  · have hj : (i + (its.toArray.size : Int)).toNat = j := by
      rw [seqIndex_neg (by omega) h4] at h1
      rw [List.size_toArray, ← hl]
      exact Option.some.inj h1
    exact subscriptTail_builtinR (x := w) pl.isList.typeIs slot_list_getitem.lookup
      (wpAny_getItem_list_neg (Q := fun r s' => r = w ∧ EP X pins σ Q r s') pl.isList (by omega) (by rw [List.size_toArray] <;> omega) (by omega) (by rw [hj]; simpa using ew) ⟨rfl, fin⟩) hs
theorem ix_tup : IxR X (rIxT X.K) := by
  intro value slice pins s σ H x y v u Q I rx ry h hs
  obtain ⟨p, xs, i, z, rfl, rfl, hq, he, q⟩ := h
  cases rx
  obtain ⟨t, rfl⟩ := ry
  obtain ⟨its, r, pl, hz⟩ := I.tuple hq
  obtain ⟨j, h1, h2, h3, h4, h5⟩ := atI_get he
  obtain ⟨w, ew, rw'⟩ := r.get h2
  have hl := r.length
  have hn := line63
  have fin : EP X pins σ Q w s := ⟨z, H, I, rw', q⟩
  exact subscriptTail_builtinR (x := w) pl.typeIs slot_tuple_getitem.lookup
    (getItem_tuple (j := j) (Q := fun r s' => r = w ∧ EP X pins σ Q r s') pl (by omega) (by omega) (by rw [List.size_toArray, ← hl]; exact h1) (by simpa using ew) ⟨rfl, fin⟩) hs
theorem ix_str : IxR X rIxS := by
  intro value slice pins s σ H x y v u Q I rx ry h hs
  obtain ⟨z, i, c, rfl, rfl, hz, he, q⟩ := h
  obtain ⟨t, rfl⟩ := rx
  obtain ⟨t', rfl⟩ := ry
  obtain ⟨j, h1, h2, h3, h4, h5⟩ := atI_get he
  have hl : z.cps.toList.length = z.length := by simp [Str.length]
  rw [hl] at h1 h4 h5
  have hn := line63
  exact tail_any (typeIs_str s z t) slot_str_getitem.lookup (getItem_str (c := c) (by
    have e1 : decide (i < -(2 ^ 63 : Int)) = false := decide_eq_false (by omega)
    have e2 : decide (i ≥ 2 ^ 63) = false := decide_eq_false (by omega)
    rw [e1, e2, Bool.or_false]) (by rw [h1]; simpa using h2) ⟨.str ⟨#[c]⟩, H, I.tok _, ⟨_, rfl⟩, q⟩) hs
/-- list, tuple or str -/
def rIx (K : PySem.W.Frag) : R2 := fun x y H Q => rIxL K x y H Q ∨ rIxT K x y H Q ∨ rIxS x y H Q
theorem ix_seq : IxR X (rIx X.K) := ix_list.or (ix_tup.or ix_str)

/-! ### xs[i] = v, any sign -/
/-- the list's object behind a store -/
theorem mapSeq_set (its : List Value) (n j : Nat) (u : Value) : Obj.mapSeq (·.setIfInBounds j u) { cls := .type "list", data := .seq its.toArray n } = { cls := .type "list", data := .seq (its.set j u).toArray n } := by
  simp [Obj.mapSeq]
theorem Inv.lst {pins : List (Addr × Obj)} {σ : St} {H : Hp} {s : Shared} {p : Addr} {xs : List V} (I : Inv X pins σ H s) (h : H p = some (.lst xs)) :
    ∃ (its : List Value) (n : Nat), Vals xs its ∧ s.heap.get? p = some { cls := .type "list", data := .seq its.toArray n } ∧ xs.length ≤ sizeLine := by
  obtain ⟨z, its, n, r, e⟩ := I.hok p _ h
  exact ⟨its, n, r, e, z⟩
/-- the list at p is written by an update of its object -/
theorem Inv.lstUpd {pins : List (Addr × Obj)} {σ : St} {H : Hp} {s : Shared} {p : Addr} {xs ys : List V} {its its' : List Value} {n n' : Nat} {f : Obj → Obj} (I : Inv X pins σ H s) (h : H p = some (.lst xs))
    (ho : s.heap.get? p = some { cls := .type "list", data := .seq its.toArray n }) (hf : f { cls := .type "list", data := .seq its.toArray n } = { cls := .type "list", data := .seq its'.toArray n' }) (r : Vals ys its') (hz : ys.length ≤ sizeLine) (t : Nat) :
    Inv X pins σ (upd H p (.lst ys)) { s with heap := s.heap.update p f, toks := t } := by
  have e : (s.heap.update p f).get? p = some { cls := .type "list", data := .seq its'.toArray n' } := by
    rw [Heap.get?_update_self f ho (by rw [hf] <;> rfl), hf]
  refine I.write (x := p) (e := p) (by rw [h]; trivial) (.inl rfl) (fun b u hb q => (Heap.get?_update_other _ _ (Ne.symm hb)).trans q) ⟨_, e⟩ ?_
  exact ⟨hz, its', n', r, e⟩
def rSetL : V → V → V → Hp → (Hp → Prop) → Prop := fun o i v H Q => ∃ p xs k j, o = .ref p ∧ i = .int k ∧ H p = some (.lst xs) ∧ ixN xs.length k = some j ∧ Q (upd H p (.lst (xs.set j v)))
theorem set_list : PSet X rSetL := by
  intro pins s σ H o i v ov iv u Q I ro ri rv h
  obtain ⟨p, xs, k, j, rfl, rfl, hp, hj, q⟩ := h
  cases ro
  obtain ⟨t, rfl⟩ := ri
  obtain ⟨its, n, r, ho, hz⟩ := I.lst hp
  obtain ⟨h1, h2, h3, h4⟩ := ixN_seq hj
  have hl := r.length
  have hn := line63
  have I' : Inv X pins σ (upd H p (.lst (xs.set j v))) { s with heap := s.heap.update p (Obj.mapSeq (·.setIfInBounds j u)) } :=
    I.lstUpd hp ho (mapSeq_set its n j u) (r.set rv j) (by rw [List.length_set]; exact hz) s.toks
  by_cases h0 : 0 ≤ k
  · have hk : k.toNat = j := by
      rw [seqIndex_of h0 h4] at h1
      exact Option.some.inj h1
    exact PySem.W.ki_setAt ho h0 (by omega) (by rw [List.size_toArray, ← hl]; exact h4) (by rw [hk]; exact ⟨_, I', q⟩)
  · have hk : (k + (its.toArray.size : Int)).toNat = j := by
      rw [seqIndex_neg (by omega) h3] at h1
      rw [List.size_toArray, ← hl]
      exact Option.some.inj h1
    exact PySem.W.ki_setBack ho (by omega) (by rw [List.size_toArray, ← hl]; exact h3) (by omega) (by rw [hk]; exact ⟨_, I', q⟩)

/-! ### slices -/
theorem slice_bounds (lo hi : Option Int) (n : Nat) : (sliceBounds lo hi none n).1 = ((HT.sIx n 0 lo : Nat) : Int) ∧ (sliceBounds lo hi none n).2.1 = ((HT.sIx n n hi : Nat) : Int) ∧ (sliceBounds lo hi none n).2.2 = 1 := by
  refine ⟨?_, ?_, rfl⟩
  · cases lo with
    | none => simp [sliceBounds, HT.sIx]
    | some i =>
      simp only [sliceBounds, HT.sIx, Option.getD_none, show (1 : Int) > 0 by decide, if_true]
      by_cases h : i < 0
      · simp only [h, if_true] <;> omega
      · simp only [h, if_false] <;> omega
  · cases hi with
    | none => simp [sliceBounds, HT.sIx]
    | some i =>
      simp only [sliceBounds, HT.sIx, Option.getD_none, show (1 : Int) > 0 by decide, if_true]
      by_cases h : i < 0
      · simp only [h, if_true] <;> omega
      · simp only [h, if_false] <;> omega
theorem slicePick_cut (its : List Value) (lo hi : Option Int) : slicePick its.toArray lo hi none = ((its.drop (HT.sIx its.length 0 lo)).take (HT.sIx its.length its.length hi - HT.sIx its.length 0 lo)).toArray := by
  obtain ⟨h1, h2, h3⟩ := slice_bounds lo hi its.toArray.size
  unfold slicePick
  rw [h1, h2, h3]
  simp only [sliceRange_one, pick_run, List.size_toArray] <;> rfl
/-- xs[lo:hi] of a list: a new list -/
def rSlL (K : PySem.W.Frag) : V → Option Int → Option Int → Hp → VK → Prop := fun x lo hi H Q => ∃ a xs, x = .ref a ∧ SqL K H a xs ∧ ∀ p, H p = none → Q (.ref p) (upd H p (.lst (cutV xs lo hi)))
theorem sl_list : SlR X (rSlL X.K) := by
  intro pins s σ H x v vl vu lo hi sl Q I rx hs pl pu h
  obtain ⟨a, xs, rfl, hx, q⟩ := h
  cases rx
  obtain ⟨its, r, ht, hz⟩ := I.list hx
  have hlen := r.length
  refine ⟨"list", _, slot_list_getitem.lookup, ht.isList.typeIs, ?_⟩
  refine wpAny_getItem_list_slice ht.isList hs pl pu .none (by simp) ?_ (by rw [List.size_toArray] <;> omega)
  rw [slicePick_cut, ← hlen]
  refine ⟨.ref s.heap.objs.size, _, I.laid (t' := s.toks) (o := .lst (cutV xs lo hi)) (fun b ob q => Heap.get?_push_of_some _ q) (Nat.le_refl _) ?_, rfl, q _ (I.hok.fresh (Nat.le_refl _))⟩
  exact ⟨Nat.le_trans (cutV_length xs lo hi) hz, _, 0, (r.drop (HT.sIx xs.length 0 lo)).take (HT.sIx xs.length xs.length hi - HT.sIx xs.length 0 lo), Heap.get?_push_size _ rfl⟩

/-! ### in, not in: flat items -/
def flatV : V → Bool
  | .non => true
  | .bl _ => true
  | .int _ => true
  | .str _ => true
  | _ => false
/-- == of flat values -/
def eqV : V → V → Bool
  | .non, .non => true
  | .bl a, .bl b => a == b
  | .bl a, .int b => (if a then 1 else 0) == b
  | .int a, .bl b => a == (if b then 1 else 0)
  | .int a, .int b => a == b
  | .str a, .str b => a == b
  | _, _ => false
theorem eqAt_V {A : Around} {s : Shared} {y x : V} {u v : Value} (ry : RelV y u) (rx : RelV x v) (fy : flatV y = true) (fx : flatV x = true) : SeqAt.EqAt A s u v (eqV y x) := by
  cases y with
  | non =>
    cases ry
    cases x with
    | non => cases rx; exact SeqAt.EqAt.same _
    | bl b => cases rx; exact SeqAt.EqAt.none_bool b
    | int b => obtain ⟨t, rfl⟩ := rx; exact SeqAt.EqAt.none_int b t
    | str b => obtain ⟨t, rfl⟩ := rx; exact SeqAt.EqAt.none_str b t
    | _ => exact absurd (show false = true from fx) Bool.false_ne_true
  | bl a =>
    cases ry
    cases x with
    | non => cases rx; exact SeqAt.EqAt.bool_none a
    | bl b => cases rx; exact SeqAt.EqAt.bool_bool a b
    | int b => obtain ⟨t, rfl⟩ := rx; exact SeqAt.EqAt.bool_int a b t
    | str b => obtain ⟨t, rfl⟩ := rx; exact SeqAt.EqAt.bool_str a b t
    | _ => exact absurd (show false = true from fx) Bool.false_ne_true
  | int a =>
    obtain ⟨t', rfl⟩ := ry
    cases x with
    | non => cases rx; exact SeqAt.EqAt.int_none a t'
    | bl b => cases rx; exact SeqAt.EqAt.int_bool a t' b
    | int b => obtain ⟨t, rfl⟩ := rx; exact SeqAt.EqAt.int_int a t' b t
    | str b => obtain ⟨t, rfl⟩ := rx; exact SeqAt.EqAt.int_str a t' b t
    | _ => exact absurd (show false = true from fx) Bool.false_ne_true
  | str a =>
    obtain ⟨t', rfl⟩ := ry
    cases x with
    | non => cases rx; exact SeqAt.EqAt.str_none a t'
    | bl b => cases rx; exact SeqAt.EqAt.str_bool a t' b
    | int b => obtain ⟨t, rfl⟩ := rx; exact SeqAt.EqAt.str_int a t' b t
    | str b => obtain ⟨t, rfl⟩ := rx; exact SeqAt.EqAt.str_str a t' b t
    | _ => exact absurd (show false = true from fx) Bool.false_ne_true
  | _ => exact absurd (show false = true from fy) Bool.false_ne_true
/-- the items' answers, read off the values (a value's own answer does not lean on its token) -/
def eqU (x : V) (u : Value) : Bool := match u with
  | .none => eqV .non x
  | .bool b => eqV (.bl b) x
  | .int i _ => eqV (.int i) x
  | .str z _ => eqV (.str z) x
  | _ => false
theorem eqU_of {x y : V} {u : Value} (r : RelV y u) (f : flatV y = true) : eqU x u = eqV y x := by
  cases y with
  | non => cases r; rfl
  | bl b => cases r; rfl
  | int i => obtain ⟨t, rfl⟩ := r; rfl
  | str z => obtain ⟨t, rfl⟩ := r; rfl
  | _ => exact absurd (show false = true from f) Bool.false_ne_true
theorem any_eqU {x : V} : ∀ {xs : List V} {us : List Value}, Vals xs us → xs.all flatV = true → us.any (eqU x) = xs.any fun y => eqV y x
  | _, _, .nil, _ => rfl
  | y :: xs, u :: us, .cons r t, f => by
    rw [List.all_cons, Bool.and_eq_true] at f
    rw [List.any_cons, List.any_cons, eqU_of r f.1, any_eqU t f.2]
theorem mem_eqAt {A : Around} {s : Shared} {x : V} {v : Value} (rx : RelV x v) (fx : flatV x = true) : ∀ {xs : List V} {us : List Value}, Vals xs us → xs.all flatV = true → ∀ u ∈ us, SeqAt.EqAt A s u v (eqU x u)
  | _, _, .nil, _ => fun u hu => by cases hu
  | y :: xs, u :: us, .cons r t, f => fun u' hu => by
    rw [List.all_cons, Bool.and_eq_true] at f
    rcases List.mem_cons.mp hu with rfl | hu
    · rw [eqU_of r f.1]; exact eqAt_V r rx f.1 fx
    · exact mem_eqAt rx fx t f.2 u' hu
def inV (x : V) (xs : List V) : Bool := xs.any fun y => eqV y x
/-- x in a list or tuple of flat items -/
def rIn (K : PySem.W.Frag) (neg : Bool) : R2 := fun x y H Q => ∃ p xs, y = .ref p ∧ (SqL K H p xs ∨ SqT K H p xs) ∧ flatV x = true ∧ xs.all flatV = true ∧ Q (.bl (if neg then !inV x xs else inV x xs)) H
theorem op_in_seq : OpR X (compareOp .In) (rIn X.K false) := by
  intro pins s σ H x y v u Q I rx ry h
  obtain ⟨p, xs, rfl, hq, fx, fs, q⟩ := h
  cases ry
  rcases hq with hq | hq
  · obtain ⟨its, r, pl, hz⟩ := I.list hq
    refine SeqAt.in_listAt (eqU x) pl.isList (fun w hw => mem_eqAt rx fx r fs w (by simpa using hw)) ⟨.bl _, H, I, rfl, ?_⟩
    rw [show its.toArray.any (eqU x) = its.any (eqU x) by simp, any_eqU r fs]
    exact q
  · obtain ⟨its, r, pl, hz⟩ := I.tuple hq
    refine SeqAt.in_tupleAt (eqU x) pl (fun w hw => mem_eqAt rx fx r fs w (by simpa using hw)) ⟨.bl _, H, I, rfl, ?_⟩
    rw [show its.toArray.any (eqU x) = its.any (eqU x) by simp, any_eqU r fs]
    exact q
theorem op_notIn_seq : OpR X (compareOp .NotIn) (rIn X.K true) := by
  intro pins s σ H x y v u Q I rx ry h
  obtain ⟨p, xs, rfl, hq, fx, fs, q⟩ := h
  cases ry
  rcases hq with hq | hq
  · obtain ⟨its, r, pl, hz⟩ := I.list hq
    refine SeqAt.notIn_listAt (eqU x) pl.isList (fun w hw => mem_eqAt rx fx r fs w (by simpa using hw)) ⟨.bl _, H, I, rfl, ?_⟩
    rw [show its.toArray.any (eqU x) = its.any (eqU x) by simp, any_eqU r fs]
    exact q
  · obtain ⟨its, r, pl, hz⟩ := I.tuple hq
    refine SeqAt.notIn_tupleAt (eqU x) pl (fun w hw => mem_eqAt rx fx r fs w (by simpa using hw)) ⟨.bl _, H, I, rfl, ?_⟩
    rw [show its.toArray.any (eqU x) = its.any (eqU x) by simp, any_eqU r fs]
    exact q
theorem op_notIn_str : OpR X (compareOp .NotIn) (fun x y H Q => ∃ i j, x = .str i ∧ y = .str j ∧ Q (.bl (!(!(Builtin.Str.occurrences j i 0 j.length 1).isEmpty))) H) := by
  intro pins s σ H x y v u Q I rx ry h
  obtain ⟨i, j, rfl, rfl, q⟩ := h
  obtain ⟨t, rfl⟩ := rx
  obtain ⟨t', rfl⟩ := ry
  exact notIn_str ⟨.bl _, H, I, rfl, q⟩

/-! ### len, list(x), tuple(x) of any list or tuple that is read -/
theorem call_len_seq : CallR X (.builtin "len") (fun xs H Q => ∃ p ys, xs = [.ref p] ∧ (SqL X.K H p ys ∨ SqT X.K H p ys) ∧ Q (.int ys.length) H) := by
  intro pins s σ H xs us Q I r h
  obtain ⟨p, ys, rfl, hq, q⟩ := h
  obtain ⟨u, rfl, rx⟩ := vals1 r
  cases rx
  have hn := line63
  rcases hq with hq | hq
  · obtain ⟨its, r', pl, hz⟩ := I.list hq
    have hlen := r'.length
    exact Calls.call_len_list pl.isList (by simp only [List.size_toArray] <;> omega) ⟨.int ys.length, H, I.tok _, ⟨s.toks + 1, by rw [List.size_toArray, hlen]⟩, q⟩
  · obtain ⟨its, r', pl, hz⟩ := I.tuple hq
    have hlen := r'.length
    exact len_tuple pl (by simp only [List.size_toArray] <;> omega) ⟨.int ys.length, H, I.tok _, ⟨s.toks + 1, by rw [List.size_toArray, hlen]⟩, q⟩
theorem call_len_str : CallR X (.builtin "len") (fun xs H Q => ∃ z, xs = [.str z] ∧ z.length ≤ sizeLine ∧ Q (.int z.length) H) := by
  intro pins s σ H xs us Q I r h
  obtain ⟨z, rfl, hz, q⟩ := h
  obtain ⟨u, rfl, t, rfl⟩ := vals1 r
  have hn := line63
  exact len_str (by omega) ⟨.int z.length, H, I.tok _, ⟨_, rfl⟩, q⟩
theorem CallR.or {f : Value} {r r' : List V → Hp → VK → Prop} (h : CallR X f r) (h' : CallR X f r') : CallR X f (fun xs H Q => r xs H Q ∨ r' xs H Q) := by
  intro pins s σ H xs us Q I rs q
  rcases q with q | q
  · exact h pins s σ H xs us Q I rs q
  · exact h' pins s σ H xs us Q I rs q
theorem call_list_of : CallR X (.type "list") (fun xs H Q => ∃ p ys, xs = [.ref p] ∧ (SqL X.K H p ys ∨ SqT X.K H p ys) ∧ ∀ l, H l = none → Q (.ref l) (upd H l (.lst ys))) := by
  intro pins s σ H xs us Q I r h
  obtain ⟨p, ys, rfl, hq, q⟩ := h
  obtain ⟨u, rfl, rx⟩ := vals1 r
  cases rx
  have fin : ∀ (its : List Value), Vals ys its → ys.length ≤ sizeLine → ∀ (h' : Heap) (c' : Nat), (∀ b o', s.heap.get? b = some o' → h'.get? b = some o') →
      h'.get? s.heap.objs.size = some { cls := .type "list", dict := none, data := .seq its.toArray c', slots := #[] } → EP X pins σ Q (.ref s.heap.objs.size) { s with heap := h' } := fun its r' hz h' c' kp e =>
    ⟨.ref s.heap.objs.size, _, I.laid (t' := s.toks) kp (Nat.le_refl _) (show ObjOk X.prog X.w _ h' _ (.lst ys) from ⟨hz, its, c', r', e⟩), rfl, q _ (I.hok.fresh (Nat.le_refl _))⟩
  rcases hq with hq | hq
  · obtain ⟨its, r', pl, hz⟩ := I.list hq
    have hlen := r'.length
    obtain ⟨o, ho, hc, n, hd⟩ := pl.isList
    exact call_list_seq p (.inl rfl) ho hc hd (fun h' c' kp e => fin its r' hz h' c' kp e) (by simp only [List.size_toArray] <;> omega)
  · obtain ⟨its, r', pl, hz⟩ := I.tuple hq
    have hlen := r'.length
    obtain ⟨o, ho, hc, n, hd⟩ := pl
    exact call_list_seq p (.inr rfl) ho hc hd (fun h' c' kp e => fin its r' hz h' c' kp e) (by simp only [List.size_toArray] <;> omega)
theorem call_tuple_of : CallR X (.type "tuple") (fun xs H Q => ∃ p ys, xs = [.ref p] ∧ ((SqL X.K H p ys ∧ ∀ l, H l = none → Q (.ref l) (upd H l (.tup ys))) ∨ (SqT X.K H p ys ∧ Q (.ref p) H))) := by
  intro pins s σ H xs us Q I r h
  obtain ⟨p, ys, rfl, h⟩ := h
  obtain ⟨u, rfl, rx⟩ := vals1 r
  cases rx
  rcases h with ⟨hq, q⟩ | ⟨hq, q⟩
  · obtain ⟨its, r', pl, hz⟩ := I.list hq
    have hlen := r'.length
    refine call_tuple_list pl.isList (fun h' kp => ?_) (by simp only [List.size_toArray] <;> omega)
    have I1 : Inv X pins σ H { s with heap := h' } := I.kept (t' := s.toks) kp
    have I2 : Inv X pins σ (upd H h'.objs.size (.tup ys)) { s with heap := h'.push { cls := .type "tuple", data := .seq its.toArray } } :=
      I1.laid (t' := s.toks) (fun b o e => Heap.get?_push_of_some _ e) (Nat.le_refl _) (show ObjOk X.prog X.w _ _ _ (.tup ys) from ⟨hz, its, r', IsTup.new _ _⟩)
    exact ⟨.ref h'.objs.size, _, I2, rfl, q _ (I1.hok.fresh (Nat.le_refl _))⟩
  · obtain ⟨its, r', pl, hz⟩ := I.tuple hq
    exact call_tuple_same pl ⟨.ref p, H, I, rfl, q⟩

/-! ### the call of a builtin's method: o.m(..) -/
/-- the value is of that builtin type -/
def tyV (K : PySem.W.Frag) (T : String) (x : V) (H : Hp) : Prop := match x with
  | .str _ => T = "str"
  | .int _ => T = "int"
  | .ref p => (T = "list" ∧ ∃ xs, SqL K H p xs) ∨ (T = "tuple" ∧ ∃ o, K.lookup p = some o ∧ o.cls = .type "tuple" ∧ o.dict = none) ∨
      (T = "dict" ∧ ((∃ kvs, H p = some (.dK kvs)) ∨ ∃ kvs, H p = some (.dT kvs))) ∨ (T = "set" ∧ ∃ S n, H p = some (.set S n))
  | _ => False
theorem tyV_is {pins : List (Addr × Obj)} {σ : St} {H : Hp} {s : Shared} {T : String} {x : V} {v : Value} (I : Inv X pins σ H s) (r : RelV x v) (ty : tyV X.K T x H) :
    s.TypeIs v T ∧ ∀ a, v = .ref a → ∃ ob, s.heap.get? a = some ob ∧ ob.dict = none := by
  cases x with
  | str z =>
    obtain ⟨t, rfl⟩ := r
    cases (show T = "str" from ty)
    exact ⟨typeIs_str s z t, fun _ e => nomatch e⟩
  | int i =>
    obtain ⟨t, rfl⟩ := r
    cases (show T = "int" from ty)
    exact ⟨typeIs_int s i t, fun _ e => nomatch e⟩
  | ref p =>
    cases r
    rcases ty with ⟨rfl, xs, hq⟩ | ⟨rfl, o, hk, hc, hd⟩ | ⟨rfl, hk⟩ | ⟨rfl, S, n, hk⟩
    · obtain ⟨its, _, pl, _⟩ := I.list hq
      refine ⟨pl.isList.typeIs, fun a e => ?_⟩
      cases e
      obtain ⟨o, n, e, c, hd, _⟩ := pl
      exact ⟨o, e, hd⟩
    · refine ⟨⟨o, I.kIn p o hk, hc⟩, fun a e => ?_⟩
      cases e
      exact ⟨o, I.kIn _ o hk, hd⟩
    · have z : ∃ o, s.heap.get? p = some o ∧ o.ExactDict := by
        rcases hk with ⟨kvs, hk⟩ | ⟨kvs, hk⟩
        · obtain ⟨_, _, _, _, o, _, _, e, ex, _⟩ := I.hok p _ hk
          exact ⟨o, e, ex⟩
        · obtain ⟨_, _, _, _, o, _, _, e, ex, _⟩ := I.hok p _ hk
          exact ⟨o, e, ex⟩
      obtain ⟨o, e, ex⟩ := z
      refine ⟨⟨o, e, ex.1⟩, fun a e2 => ?_⟩
      cases e2
      exact ⟨o, e, ex.2.1⟩
    · obtain ⟨o, _, _, _, e, ex, _⟩ := I.hok p _ hk
      refine ⟨⟨o, e, ex.1⟩, fun a e2 => ?_⟩
      cases e2
      exact ⟨o, e, ex.2.1⟩
  | _ => exact False.elim ty
def tBM0 (K : PySem.W.Frag) (T : String) (r : V → List V → Hp → VK → Prop) (to : TE) : TE := fun σ H Q => to σ H fun x H1 => tyV K T x H1 ∧ r x [] H1 Q
def tBM (K : PySem.W.Frag) (T : String) (r : V → List V → Hp → VK → Prop) (to : TE) (t : TA) : TE := fun σ H Q => to σ H fun x H1 => tyV K T x H1 ∧ t σ H1 fun xs H2 => r x xs H2 Q
variable {o e : Expr} {es : List Expr} {to : TE} {t : TA} {name : Str} {apos cpos : Pos} {T id : String} {r : V → List V → Hp → VK → Prop}
theorem pe_bm0 (pa : PlainAttrs T) (slot : Slot T name id) (hty : typeOf (.builtin id) = pure (.type "method_descriptor")) (hm : MtR X id r) (ho : PE X o to)
    (hbase : attributeBase o name X.env (eval o X.env) = eval o X.env := by rfl) (hline : (apos.endLine == cpos.line) = true := by rfl) : PE X (.Call (.Attribute o name apos) [] [] cpos) (tBM0 X.K T r to) := by
  intro pins s σ H Q I h
  refine wpAny_Call_method0_late hbase hline (thn (ho pins s σ H _ I h) fun v s1 ⟨x, H1, I1, r1, ty, q1⟩ => ?_)
  obtain ⟨h1, h2⟩ := tyV_is I1 r1 ty
  exact ⟨T, id, pa, slot, hty, h1, h2, Calls.callWith_builtin rfl (PySem.evalArgs_none (hm pins s1 σ H1 x [] v [] Q I1 r1 .nil q1))⟩
theorem pe_bm (pa : PlainAttrs T) (slot : Slot T name id) (hty : typeOf (.builtin id) = pure (.type "method_descriptor")) (hm : MtR X id r) (ho : PE X o to) (ha : PA X (e :: es) t)
    (hbase : attributeBase o name X.env (eval o X.env) = eval o X.env := by rfl)
    (hfew : ((backTo cpos (starEach (e :: es) X.env)).all (fun x => !x.1) && (backToKw cpos (keywordEach [] X.env)).all (fun x => x.1.isSome)
      && decide ((e :: es).length + ([] : List Keyword).length + (if ([] : List Keyword).isEmpty then 0 else 1) < 30)) = true := by rfl)
    (hline : (apos.endLine == cpos.line) = true := by rfl) (hs : starEach (e :: es) X.env = (false, eval e X.env) :: starEach es X.env := by rfl) (hplain : (backTo cpos (starEach es X.env)).any (·.1) = false := by rfl) :
    PE X (.Call (.Attribute o name apos) (e :: es) [] cpos) (tBM X.K T r to t) := by
  intro pins s σ H Q I h
  refine wpAny_Call_method_late hbase hfew hline rfl (thn (ho pins s σ H _ I h) fun v s1 ⟨x, H1, I1, r1, ty, q1⟩ => ?_)
  obtain ⟨h1, h2⟩ := tyV_is I1 r1 ty
  refine ⟨T, id, pa, slot, hty, h1, h2, ?_⟩
  have hA := ha cpos pins s1 σ H1 _ I1 q1
  rw [hs] at hA ⊢
  refine Calls.callWith_builtin (by show (false || (backTo cpos (starEach es X.env)).any (·.1)) = false; rw [hplain] <;> rfl) (Calls.evalArgs_plain ?_)
  exact thn hA fun us s2 ⟨vs, H2, I2, r2, q2⟩ => hm pins s2 σ H2 x vs v us Q I2 r1 r2 q2
/- xs.append(e), list.index on a module's tuple .. are MtR facts of 06m -/
end
end L2

namespace L2
open PySem PySem.Spec PyProof.Rows

def MtM (X : Cx) (id : String) (r : V → List V → Hp → VK → Prop) : Prop :=
  ∀ (pins : List (Addr × Obj)) (s : Shared) (σ : St) (H : Hp) (x : V) (xs : List V) (v : Value) (us : List Value) (Q : VK), Inv X pins σ H s → RelV x v → Vals xs us → r x xs H Q →
    wpAny (model X.prog X.w) X.A (call (.builtin id) (v :: us)) (EP X pins σ Q) X.xe s

/-! ### lists of values -/
theorem Vals.one : ∀ {x : V} {us : List Value}, Vals [x] us → ∃ u, us = [u] ∧ RelV x u
  | _, _, .cons r .nil => ⟨_, rfl, r⟩
theorem Vals.two : ∀ {x y : V} {us : List Value}, Vals [x, y] us → ∃ u v, us = [u, v] ∧ RelV x u ∧ RelV y v
  | _, _, _, .cons r (.cons q .nil) => ⟨_, _, rfl, r, q⟩
theorem Vals.zero : ∀ {us : List Value}, Vals [] us → us = []
  | _, .nil => rfl
theorem Vals.dropLast {xs : List V} {us : List Value} (h : Vals xs us) : Vals xs.dropLast us.dropLast := by
  induction h with
  | nil => exact .nil
  | cons r t ih =>
    cases t with
    | nil => exact .nil
    | cons q t' => exact .cons r ih
theorem Vals.eraseIdx : ∀ {xs : List V} {us : List Value} (i : Nat), Vals xs us → Vals (xs.eraseIdx i) (us.eraseIdx i)
  | _, _, _, .nil => .nil
  | _, _, 0, .cons _ t => t
  | _, _, i + 1, .cons r t => .cons r (Vals.eraseIdx i t)
theorem Vals.reverse {xs : List V} {us : List Value} (h : Vals xs us) : Vals xs.reverse us.reverse := by
  induction h with
  | nil => exact .nil
  | cons r t ih => rw [List.reverse_cons, List.reverse_cons]; exact Vals.append ih (.cons r .nil)
theorem Vals.rep {xs : List V} {us : List Value} (h : Vals xs us) : ∀ k : Nat, Vals (List.replicate k xs).flatten (List.replicate k us).flatten
  | 0 => .nil
  | k + 1 => by
    rw [List.replicate_succ, List.replicate_succ, List.flatten_cons, List.flatten_cons]
    exact Vals.append h (Vals.rep h k)
theorem erase_last {α : Type} (l : List α) : l.eraseIdx (l.length - 1) = l.dropLast := by
  induction l with
  | nil => rfl
  | cons a r ih =>
    cases r with
    | nil => rfl
    | cons b r =>
      have e : (a :: b :: r).length - 1 = ((b :: r).length - 1) + 1 := by
        have h1 : (a :: b :: r).length = r.length + 2 := rfl
        have h2 : (b :: r).length = r.length + 1 := rfl
        omega
      rw [e, List.eraseIdx_cons_succ, ih]
      all_goals rfl
theorem len_erase {α : Type} : ∀ (l : List α) (i : Nat), (l.eraseIdx i).length ≤ l.length
  | [], _ => Nat.le_refl _
  | _ :: _, 0 => Nat.le_succ _
  | _ :: r, i + 1 => Nat.succ_le_succ (len_erase r i)
theorem foldl_rep (its : List Value) : ∀ (k : Nat) (acc : List Value),
    List.foldl (fun x1 x2 => x1 ++ x2) acc.toArray (List.replicate k its.toArray) = (acc ++ (List.replicate k its).flatten).toArray
  | 0, acc => by simp
  | k + 1, acc => by
    have e : acc.toArray ++ its.toArray = (acc ++ its).toArray := by simp
    have e2 : (acc ++ its) ++ (List.replicate k its).flatten = acc ++ (List.replicate (k + 1) its).flatten := by
      rw [List.replicate_succ, List.flatten_cons, List.append_assoc]
    rw [← e2, ← foldl_rep its k (acc ++ its), ← e, List.replicate_succ, List.foldl_cons]

section
variable {X : Cx} {pins : List (Addr × Obj)} {σ : St} {H : Hp} {s : Shared} {l b : Addr} {xs ys zs : List V}

/-! ### the two steps: a tracked list is rewritten, a new list is laid -/
theorem Inv.lset {its its' : List Value} {n : Nat} {f : Array Value → Array Value} {t' : Nat} (I : Inv X pins σ H s) (hH : H l = some (.lst xs))
    (e : s.heap.get? l = some { cls := .type "list", data := .seq its.toArray n }) (hf : f its.toArray = its'.toArray) (hv : Vals ys its') (hz : ys.length ≤ sizeLine) :
    Inv X pins σ (upd H l (.lst ys)) { s with heap := s.heap.update l (Obj.mapSeq f), toks := t' } := by
  have q := PySem.IsL.update e f
  rw [hf] at q
  refine I.write (x := l) (e := l) (by rw [hH]; exact trivial) (.inl rfl) (fun b' u hb hu => (Heap.get?_update_other s.heap (Obj.mapSeq f) (Ne.symm hb)).trans hu) ⟨_, q⟩ ?_
  exact ⟨hz, its', _, hv, q⟩
theorem Inv.lnew {its : List Value} {t' : Nat} (I : Inv X pins σ H s) (hv : Vals ys its) (hz : ys.length ≤ sizeLine) :
    Inv X pins σ (upd H s.heap.objs.size (.lst ys)) { s with heap := s.heap.push { cls := .type "list", data := .seq its.toArray }, toks := t' } :=
  I.laid (fun _ _ q => Heap.get?_push_of_some _ q) (Nat.le_refl _) ⟨hz, its, 0, hv, Heap.get?_push_size _ rfl⟩
theorem Inv.fresh (I : Inv X pins σ H s) : H s.heap.objs.size = none := I.hok.fresh (Nat.le_refl _)
theorem Inv.lstM (I : Inv X pins σ H s) (hH : H l = some (.lst xs)) : xs.length ≤ sizeLine ∧ ∃ (its : List Value) (n : Nat), Vals xs its ∧ xs.length = its.length ∧ s.heap.get? l = some { cls := .type "list", data := .seq its.toArray n } := by
  obtain ⟨z, its, n, r, e⟩ := I.hok l _ hH
  exact ⟨z, its, n, r, r.length, e⟩

theorem notLongL {n : Nat} (h : n ≤ sizeLine) : Builtin.List.listTooLong n = false := by
  unfold Builtin.List.listTooLong
  exact decide_eq_false (by omega)
end

section
variable {X : Cx}

/-! ### methods -/
def rAppend : V → List V → Hp → VK → Prop := fun x vs H Q => ∃ l xs y, x = .ref l ∧ vs = [y] ∧ H l = some (.lst xs) ∧ xs.length < sizeLine ∧ Q .non (upd H l (.lst (xs ++ [y])))
theorem mt_append : MtM X "list.append" rAppend := by
  intro pins s σ H x vs v us Q I rx rv h
  obtain ⟨l, xs, y, rfl, rfl, hH, hz, q⟩ := h
  cases rx
  obtain ⟨u, rfl, ru⟩ := rv.one
  obtain ⟨z, its, n, r, hl, e⟩ := I.lstM hH
  refine call_meets F.slot_list_append ⟨_, e, rfl⟩ F.entry_list_append (F.args_list_append_2 _ _) (PySem.list_append l its.toArray n u (by rw [List.size_toArray]; omega)) ⟨e, ?_⟩
  refine ⟨.non, _, I.lset (its' := its ++ [u]) hH e (by simp) (r.append (.cons ru .nil)) ?_, rfl, q⟩
  rw [List.length_append, List.length_singleton]
  omega

def rExtend : V → List V → Hp → VK → Prop := fun x vs H Q => ∃ l b xs zs, x = .ref l ∧ vs = [.ref b] ∧ H l = some (.lst xs) ∧ H b = some (.lst zs) ∧ xs.length + zs.length ≤ sizeLine ∧ Q .non (upd H l (.lst (xs ++ zs)))
theorem mt_extend : MtM X "list.extend" rExtend := by
  intro pins s σ H x vs v us Q I rx rv h
  obtain ⟨l, b, xs, zs, rfl, rfl, hH, hB, hz, q⟩ := h
  cases rx
  obtain ⟨u, rfl, ru⟩ := rv.one
  cases ru
  obtain ⟨z, its, n, r, hl, e⟩ := I.lstM hH
  obtain ⟨z2, its2, n2, r2, hl2, e2⟩ := I.lstM hB
  have hsz : its.toArray.size + its2.toArray.size ≤ sizeLine := by rw [List.size_toArray, List.size_toArray]; omega
  have hlong : ¬ (!its.toArray.isEmpty && Builtin.List.listTooLong (its.toArray.size + its2.toArray.size)) = true := by
    rw [notLongL hsz, Bool.and_false]
    exact Bool.false_ne_true
  refine call_meets F.slot_list_extend ⟨_, e, rfl⟩ F.entry_list_extend (F.args_list_extend_2 _ _)
    (AutoSeq1.list_extend_list_list_0 l its.toArray n b its2.toArray n2 hlong (by rw [List.size_toArray]; omega) (by omega)) ⟨e, e2, ?_⟩
  refine ⟨.non, _, I.lset (its' := its ++ its2) hH e (by simp) (r.append r2) ?_, rfl, q⟩
  rw [List.length_append]
  omega

def rPop : V → List V → Hp → VK → Prop := fun x vs H Q => ∃ l xs y, x = .ref l ∧ vs = [] ∧ H l = some (.lst xs) ∧ xs[xs.length - 1]? = some y ∧ Q y (upd H l (.lst xs.dropLast))
theorem mt_pop : MtM X "list.pop" rPop := by
  intro pins s σ H x vs v us Q I rx rv h
  obtain ⟨l, xs, y, rfl, rfl, hH, hy, q⟩ := h
  cases rx
  have hus := rv.zero
  subst hus
  obtain ⟨z, its, n, r, hl, e⟩ := I.lstM hH
  obtain ⟨u, hu, ru⟩ := r.get hy
  have hy' : its.toArray[its.toArray.size - 1]? = some u := by
    show its.toArray[its.length - 1]? = some u
    rw [← Array.getElem?_toList, ← hl]
    exact hu
  refine call_meets F.slot_list_pop ⟨_, e, rfl⟩ F.entry_list_pop (F.args_list_pop_1 _) (MeetsSeq.list_pop_last l its.toArray n u hy' (by rw [List.size_toArray]; omega)) ⟨e, ?_⟩
  refine ⟨y, _, I.lset (its' := its.dropLast) hH e ?_ r.dropLast ?_, ru, q⟩
  · show its.toArray.eraseIdxIfInBounds (its.toArray.size - 1) = its.dropLast.toArray
    rw [List.size_toArray, List.eraseIdxIfInBounds_toArray, erase_last]
  · rw [List.length_dropLast]
    omega

def rPopAt : V → List V → Hp → VK → Prop := fun x vs H Q => ∃ l xs i k y, x = .ref l ∧ vs = [.int i] ∧ H l = some (.lst xs) ∧ -(2 ^ 63) ≤ i ∧ i < 2 ^ 63 ∧ seqIndex? i xs.length = some k ∧ xs[k]? = some y ∧ Q y (upd H l (.lst (xs.eraseIdx k)))
theorem mt_popAt : MtM X "list.pop" rPopAt := by
  intro pins s σ H x vs v us Q I rx rv h
  obtain ⟨l, xs, i, k, y, rfl, rfl, hH, h1, h2, hk, hy, q⟩ := h
  cases rx
  obtain ⟨u, rfl, ru⟩ := rv.one
  obtain ⟨t, rfl⟩ := ru
  obtain ⟨z, its, n, r, hl, e⟩ := I.lstM hH
  obtain ⟨w, hw, rw'⟩ := r.get hy
  refine call_meets F.slot_list_pop ⟨_, e, rfl⟩ F.entry_list_pop (F.args_list_pop_2 _ _)
    (MeetsSeq.list_pop_at l its.toArray n i t k w (fitsIndex_both h1 h2) (by rw [List.size_toArray, ← hl]; exact hk) (by rw [← Array.getElem?_toList]; exact hw) (by rw [List.size_toArray]; omega)) ⟨e, ?_⟩
  refine ⟨y, _, I.lset (its' := its.eraseIdx k) hH e ?_ (r.eraseIdx k) ?_, rw', q⟩
  · show its.toArray.eraseIdxIfInBounds k = (its.eraseIdx k).toArray
    rw [List.eraseIdxIfInBounds_toArray]
  · have := len_erase xs k
    omega

def rReverse : V → List V → Hp → VK → Prop := fun x vs H Q => ∃ l xs, x = .ref l ∧ vs = [] ∧ H l = some (.lst xs) ∧ Q .non (upd H l (.lst xs.reverse))
theorem mt_reverse : MtM X "list.reverse" rReverse := by
  intro pins s σ H x vs v us Q I rx rv h
  obtain ⟨l, xs, rfl, rfl, hH, q⟩ := h
  cases rx
  have hus := rv.zero
  subst hus
  obtain ⟨z, its, n, r, hl, e⟩ := I.lstM hH
  refine call_meets F.slot_list_reverse ⟨_, e, rfl⟩ F.entry_list_reverse (F.args_list_reverse_1 _) (AutoSeq1.list_reverse_list_0 l its.toArray n (by rw [List.size_toArray]; omega)) ⟨e, ?_⟩
  refine ⟨.non, _, I.lset (its' := its.reverse) hH e (by simp) r.reverse ?_, rfl, q⟩
  rw [List.length_reverse]
  omega

def rClear : V → List V → Hp → VK → Prop := fun x vs H Q => ∃ l xs, x = .ref l ∧ vs = [] ∧ H l = some (.lst xs) ∧ Q .non (upd H l (.lst []))
theorem mt_clear : MtM X "list.clear" rClear := by
  intro pins s σ H x vs v us Q I rx rv h
  obtain ⟨l, xs, rfl, rfl, hH, q⟩ := h
  cases rx
  have hus := rv.zero
  subst hus
  obtain ⟨z, its, n, r, hl, e⟩ := I.lstM hH
  refine call_meets F.slot_list_clear ⟨_, e, rfl⟩ F.entry_list_clear (F.args_list_clear_1 _) (AutoSeq1.list_clear_list_0 l its.toArray n (by rw [List.size_toArray]; omega)) ⟨e, ?_⟩
  exact ⟨.non, _, I.lset (its' := []) (ys := []) hH e rfl .nil (Nat.zero_le _), rfl, q⟩

/-! ### list + list, list += list, list * int -/
def rCat : R2 := fun x y H Q => ∃ l b xs zs, x = .ref l ∧ y = .ref b ∧ H l = some (.lst xs) ∧ H b = some (.lst zs) ∧ xs.length + zs.length ≤ sizeLine ∧ ∀ p, H p = none → Q (.ref p) (upd H p (.lst (xs ++ zs)))
theorem op_cat : OpR X (binaryOp .Add) rCat := by
  intro pins s σ H x y v u Q I rx ry h
  obtain ⟨l, b, xs, zs, rfl, rfl, hH, hB, hz, q⟩ := h
  cases rx
  cases ry
  obtain ⟨z, its, n, r, hl, e⟩ := I.lstM hH
  obtain ⟨z2, its2, n2, r2, hl2, e2⟩ := I.lstM hB
  refine PySem.P.add_list e e2 ?_ (by rw [List.size_toArray, List.size_toArray]; omega)
  have ea : its.toArray ++ its2.toArray = (its ++ its2).toArray := by simp
  rw [ea]
  exact ⟨.ref _, _, I.lnew (t' := s.toks) (r.append r2) (by rw [List.length_append]; omega), rfl, q _ I.fresh⟩
/-- a list times an int (a negative one is nothing) -/
def rRep : R2 := fun x y H Q => ∃ l k xs, x = .ref l ∧ y = .int k ∧ H l = some (.lst xs) ∧ -(2 ^ 63) ≤ k ∧ k < 2 ^ 63 ∧ xs.length * k.toNat ≤ sizeLine ∧
  ∀ p, H p = none → Q (.ref p) (upd H p (.lst (List.replicate k.toNat xs).flatten))
theorem len_rep {α : Type} (xs : List α) (k : Nat) : (List.replicate k xs).flatten.length = k * xs.length := by
  induction k with
  | zero => simp
  | succ k ih => rw [List.replicate_succ, List.flatten_cons, List.length_append, ih, Nat.succ_mul, Nat.add_comm]
theorem op_rep : OpR X (binaryOp .Mult) rRep := by
  intro pins s σ H x y v u Q I rx ry h
  obtain ⟨l, k, xs, rfl, rfl, hH, h1, h2, hz, q⟩ := h
  cases rx
  obtain ⟨t, rfl⟩ := ry
  obtain ⟨z, its, n, r, hl, e⟩ := I.lstM hH
  have hlen : its.toArray.size * k.toNat ≤ sizeLine := by rw [List.size_toArray, ← hl]; exact hz
  have hcap : ¬ its.toArray.size * k.toNat > (2 ^ 63 - 1) / 8 := by
    have : (sizeLine : Nat) ≤ (2 ^ 63 - 1) / 8 := by decide
    omega
  have hfit : ¬ (!Builtin.List.listFitsIndex k) = true := by
    rw [fitsIndex_both h1 h2]
    exact Bool.false_ne_true
  have hlong : ¬ Builtin.List.listTooLong (its.toArray.size * k.toNat) = true := by
    rw [notLongL hlen]
    exact Bool.false_ne_true
  have hnew : List.foldl (fun x1 x2 => x1 ++ x2) #[] (List.replicate (if its.toArray.isEmpty = true then 0 else k.toNat) its.toArray) = (List.replicate k.toNat its).flatten.toArray := by
    have f0 : ∀ m : Nat, List.foldl (fun x1 x2 => x1 ++ x2) #[] (List.replicate m its.toArray) = (List.replicate m its).flatten.toArray := fun m => by
      have := foldl_rep its m []
      rw [List.nil_append] at this
      exact this
    rw [f0]
    cases its with
    | nil => simp
    | cons a r' => rw [if_neg (by simp)]
  refine wpAny_binaryOp_repeat_ref (T := "list") (U := "int") (by decide) ⟨_, e, rfl⟩ (fun s' => typeIs_int s' k t) noFill_list_mul F.fills_int_mul F.slot_int_rmul repeat_list F.slot_int_index.lookup
    (call_meets F.slot_int_rmul (typeIs_int s k t) F.entry_int_rmul (F.args_int_rmul_2 _ _) (int___rmul___int_list k t l its.toArray n)
      ⟨e, rfl, ⟨_, e, rfl⟩, call_meets F.slot_list_mul ⟨_, e, rfl⟩ F.entry_list_mul (F.args_list_mul_2 _ _) (AutoListH.list___mul___list_int_3 l its.toArray n k t hfit hcap hlong) ⟨e, ?_⟩⟩)
  rw [hnew]
  exact ⟨.ref _, _, I.lnew (t' := s.toks) (r.rep k.toNat) (by rw [len_rep, Nat.mul_comm]; exact hz), rfl, q _ I.fresh⟩

/-! ### del xs[i] -/
theorem del_list {pins : List (Addr × Obj)} {s : Shared} {σ : St} {H : Hp} {l : Addr} {xs : List V} {i : Int} {t : Tok} {k : Nat} {Q : Unit → Shared → Prop} (I : Inv X pins σ H s) (hH : H l = some (.lst xs))
    (h1 : -(2 ^ 63) ≤ i) (h2 : i < 2 ^ 63) (hk : seqIndex? i xs.length = some k) (h : ∀ s', Inv X pins σ (upd H l (.lst (xs.eraseIdx k))) s' → Q () s') :
    wpAny (model X.prog X.w) X.A (delItem (.ref l) (.int i t)) Q X.xe s := by
  obtain ⟨z, its, n, r, hl, e⟩ := I.lstM hH
  refine PySem.P.delItem_list (k := k) e (fitsIndex_both h1 h2) (by rw [List.size_toArray, ← hl]; exact hk) (h _ ?_) (by rw [List.size_toArray]; omega)
  refine I.lset (its' := its.eraseIdx k) (t' := s.toks) hH e ?_ (r.eraseIdx k) ?_
  · show its.toArray.eraseIdxIfInBounds k = (its.eraseIdx k).toArray
    rw [List.eraseIdxIfInBounds_toArray]
  · have := len_erase xs k
    omega
end

/-! ### xs[a:b] = ys -/
section
variable {prog : Program} {w : World} {A : Around} {E : Value → Shared → Prop} {s : Shared}
theorem splice_eq (its its2 : List Value) (a c : Nat) : its.toArray.extract 0 a ++ its2.toArray ++ its.toArray.extract c its.toArray.size = (its.take a ++ its2 ++ its.drop c).toArray := by
  apply Array.toList_inj.mp
  first
    | (simp
       exact List.take_of_length_le (by simp))
    | simp [List.take_of_length_le]
    | simp
theorem bounds_run {a c n : Nat} (hac : a ≤ c) (hc : c ≤ n) : sliceBounds (some (a : Int)) (some (c : Int)) none n = ((a : Int), (c : Int), 1) := by
  simp only [sliceBounds, Option.getD_none]
  have h1 : ¬ ((a : Int) < 0) := by omega
  have h2 : ¬ ((c : Int) < 0) := by omega
  simp only [h1, h2, if_false, show (1 : Int) > 0 by decide, if_true]
  congr 1
  · omega
  · congr 1; omega
set_option maxRecDepth 100000 in
/-- list.__setitem__ with a slice of step one and another list -/
theorem setItem_slice {l b sl : Addr} {items new : Array Value} {n n2 : Nat} {vl vu : Value} {a c : Nat} {Q : Unit → Shared → Prop}
    (e : s.heap.get? l = some { cls := .type "list", data := .seq items n }) (e2 : s.heap.get? b = some { cls := .type "list", data := .seq new n2 }) (hne : l ≠ b)
    (hs : s.heap.IsSliceOf sl vl vu .none) (pl : IsPart vl (some (a : Int))) (pu : IsPart vu (some (c : Int))) (hac : a ≤ c) (hc : c ≤ items.size)
    (hsz : items.size + new.size ≤ sizeLine) (h : Q () { s with heap := s.heap.update l (Obj.mapSeq fun xs => xs.extract 0 a ++ new ++ xs.extract c xs.size) }) :
    wpAny (model prog w) A (setItem (.ref l) (.ref sl) (.ref b)) Q E s := by
  have hl : s.heap.IsList l items := PySem.IsL.isList e
  have hb : s.heap.IsList b new := PySem.IsL.isList e2
  obtain ⟨os, hos, hcs, hds⟩ := id hs
  have hTs : s.TypeIs (.ref sl) "slice" := ⟨os, hos, hcs⟩
  have hstep : ¬ ((rawPart none == rawInt 0) = true) := Bool.false_ne_true
  have hsame : Builtin.List.listSameRef (.ref l) (.ref b) = false := by
    unfold Builtin.List.listSameRef
    exact beq_eq_false_iff_ne.mpr hne
  have hmax : (max (a : Int) (c : Int)).toNat = c := by omega
  have hz' : ((fun xs : Array Value => xs.extract 0 a ++ new ++ xs.extract c xs.size) items).size ≤ sizeLine + 1 := by
    simp only [Array.size_append, Array.size_extract]
    omega
  unfold setItem
  try with_reducible refine wpAny_holding ?_
  first | refine wpAny_bind (wpAny_pure ?_) | skip
  refine wpAny_bind (wpAny_sequenceKey hl.typeIs (by decide) ?_)
  refine wpAny_bind (wpAny_callSpecial?_slot (name := Str.ofString "__setitem__") hl.typeIs slot_list_setitem
    (wpAny_call_entry slot_list_setitem hl.typeIs entry_list_setitem ?_ (args_list_setitem _ _ _)))
  show wpAny _ _ (Builtin.List.listSubscript? (.ref sl) >>= _) _ _ s
  refine wpAny_bind ?_
  unfold Builtin.List.listSubscript?
  refine wpAny_bind (wpAny_specialOf hTs slice_no_index ?_)
  simp only [Option.isNone_none, if_true]
  refine wpAny_pure ?_
  show wpAny _ _ (typeOf (.ref sl) >>= _) _ _ s
  refine wpAny_bind (wpAny_typeOf hTs ?_)
  first
    | rw [if_neg (by decide)]
    | refine PySem.W.KFB.if_not (by decide) ?_
  rw [listSliceParts_eq]
  refine wpAny_bind (wpAny_bind (wpAny_field hos hds (x := .none) rfl (wpAny_bind (wpAny_listPart .none ?_))))
  rw [if_neg hstep]
  refine wpAny_bind (wpAny_field hos hds (x := vl) rfl (wpAny_bind (wpAny_listPart pl ?_)))
  refine wpAny_bind (wpAny_field hos hds (x := vu) rfl (wpAny_bind (wpAny_listPart pu (wpAny_pure ?_))))
  first
    | simp only [hsame, Bool.false_eq_true, if_false]
    | refine PySem.W.KFB.if_not hsame ?_
    | (dsimp only
       rw [if_neg (by rw [hsame]; exact Bool.false_ne_true)])
  refine wpAny_bind (m := Builtin.List.listAllItems (.ref b) "must assign iterable to extended slice") ?_
  unfold Builtin.List.listAllItems
  refine wpAny_bind (wpAny_typeOf hb.typeIs ?_)
  first
    | refine PySem.W.KFB.if_so (by decide) ?_
    | rw [if_pos (by decide)]
    | simp only [beq_self_eq_true, Bool.true_or, if_true]
  unfold Builtin.List.listItems
  refine wpAny_bind (wpAny_seqItems e2 rfl (wpAny_pure ?_))
  refine wpAny_bind (wpAny_bind (wpAny_seqItems e rfl (wpAny_pure ?_)))
  refine wpAny_bind (wpAny_of_eq ((sliceIndices_raw (some (a : Int)) (some (c : Int)) none items.size (by simp)).trans (congrArg (pure : Int × Int × Int → Sem (Int × Int × Int)) (bounds_run hac hc))) ?_)
  show wpAny _ _ (if ((1 : Int) == 1) = true then _ else _) _ _ s
  rw [if_pos (by decide)]
  refine wpAny_bind (wpAny_rule ?_)
  first
    | simp only [notLongL hsz, Bool.false_eq_true, if_false]
    | refine PySem.W.KFB.if_not (notLongL hsz) ?_
  first | refine wpAny_bind (wpAny_pure ?_) | skip
  show wpAny _ _ (updateSeq l (fun xs => xs.extract 0 ((a : Int)).toNat ++ new ++ xs.extract (max (a : Int) (c : Int)).toNat xs.size) >>= _) _ _ s
  rw [hmax, Int.toNat_natCast]
  refine wpAny_bind (wpAny_updateSeq (hz := Nat.le_trans (Nat.le_add_right _ _) hsz) (_hz' := hz') e rfl ?_)
  refine wpAny_bind (wpAny_letGo ?_)
  first
    | exact wpAny_bind (wpAny_pure (wpAny_pure ⟨.none, rfl, wpAny_pure h⟩))
    | exact wpAny_pure ⟨.none, rfl, wpAny_pure h⟩
end

section
variable {X : Cx}
/-- xs[a:c] = ys of another list, at the value level: sl is the slice object that was just made -/
theorem set_slice {pins : List (Addr × Obj)} {s : Shared} {σ : St} {H : Hp} {l b sl : Addr} {xs ys : List V} {a c : Int} {vl vu : Value} {Q : Unit → Shared → Prop} (I : Inv X pins σ H s)
    (hH : H l = some (.lst xs)) (hB : H b = some (.lst ys)) (hne : l ≠ b) (hs : s.heap.IsSliceOf sl vl vu .none) (ra : RelV (.int a) vl) (rc : RelV (.int c) vu) (h0 : 0 ≤ a) (hac : a ≤ c) (hc : c ≤ xs.length)
    (hz : xs.length + ys.length ≤ sizeLine) (h : ∀ s', Inv X pins σ (upd H l (.lst (xs.take a.toNat ++ ys ++ xs.drop c.toNat))) s' → Q () s') :
    wpAny (model X.prog X.w) X.A (setItem (.ref l) (.ref sl) (.ref b)) Q X.xe s := by
  obtain ⟨ta, rfl⟩ := ra
  obtain ⟨tc, rfl⟩ := rc
  obtain ⟨z, its, n, r, hl, e⟩ := I.lstM hH
  obtain ⟨z2, its2, n2, r2, hl2, e2⟩ := I.lstM hB
  obtain ⟨a', rfl⟩ := Int.eq_ofNat_of_zero_le h0
  obtain ⟨c', rfl⟩ := Int.eq_ofNat_of_zero_le (Int.le_trans h0 hac)
  simp only [Int.toNat_natCast] at h
  refine setItem_slice (a := a') (c := c') e e2 hne hs (.int _ _) (.int _ _) (by omega) (by rw [List.size_toArray]; omega) (by rw [List.size_toArray, List.size_toArray]; omega) (h _ ?_)
  refine I.lset (its' := its.take a' ++ its2 ++ its.drop c') (t' := s.toks) hH e ?_ (Vals.append (Vals.append (r.take _) r2) (r.drop _)) ?_
  · exact splice_eq its its2 a' c'
  · rw [List.length_append, List.length_append, List.length_take, List.length_drop]
    omega
end
end L2

namespace L2
open PySem PySem.Spec PyProof.Rows

/-! ### lists of pairs as tables -/
section
variable {κ : Type} [DecidableEq κ]
def valV (kvs : List (κ × V)) (k : κ) : Option V := (kvs.find? fun kv => decide (kv.1 = k)).map (·.2)
/-- in its place, or at the end -/
def putK (kvs : List (κ × V)) (k : κ) (v : V) : List (κ × V) :=
  if (kvs.any fun kv => decide (kv.1 = k)) = true then kvs.map (fun kv => if kv.1 = k then (kv.1, v) else kv) else kvs ++ [(k, v)]
def dropK (kvs : List (κ × V)) (k : κ) : List (κ × V) := kvs.filter fun kv => decide (kv.1 ≠ k)

theorem valV_nil {k : κ} : valV ([] : List (κ × V)) k = none := rfl
theorem valV_pos {p : κ × V} {r : List (κ × V)} {k : κ} (e : p.1 = k) : valV (p :: r) k = some p.2 := by simp [valV, List.find?_cons, e]
theorem valV_neg {p : κ × V} {r : List (κ × V)} {k : κ} (e : ¬ p.1 = k) : valV (p :: r) k = valV r k := by simp [valV, List.find?_cons, e]
theorem valV_any (k : κ) : ∀ kvs : List (κ × V), (kvs.any fun kv => decide (kv.1 = k)) = (valV kvs k).isSome
  | [] => rfl
  | p :: r => by
    rw [List.any_cons]
    by_cases e : p.1 = k
    · simp only [valV_pos e, decide_eq_true e, Bool.true_or, Option.isSome_some]
    · rw [valV_neg e, decide_eq_false e, Bool.false_or]; exact valV_any k r
theorem valV_map (k j : κ) (y : V) : ∀ kvs : List (κ × V), valV (kvs.map fun kv => if kv.1 = k then (kv.1, y) else kv) j = (valV kvs j).map fun x => if j = k then y else x
  | [] => rfl
  | p :: r => by
    have ih := valV_map k j y r
    rw [List.map_cons]
    by_cases h : p.1 = k
    · rw [if_pos h]
      by_cases e : p.1 = j
      · rw [valV_pos (p := (p.1, y)) e, valV_pos e, Option.map_some, if_pos (e.symm.trans h)]
      · rw [valV_neg (p := (p.1, y)) e, valV_neg e, ih]
    · rw [if_neg h]
      by_cases e : p.1 = j
      · rw [valV_pos (p := p) e, valV_pos e, Option.map_some, if_neg (fun z => h (e.trans z))]
      · rw [valV_neg (p := p) e, valV_neg e, ih]
theorem valV_snoc (k j : κ) (y : V) : ∀ kvs : List (κ × V), valV kvs k = none → valV (kvs ++ [(k, y)]) j = if j = k then some y else valV kvs j
  | [], _ => by
    by_cases e : k = j
    · rw [if_pos e.symm]; exact valV_pos (p := (k, y)) e
    · rw [if_neg (fun z => e z.symm)]; exact valV_neg (p := (k, y)) e
  | p :: r, hn => by
    rw [List.cons_append]
    have hk : ¬ p.1 = k := fun z => by rw [valV_pos z] at hn; cases hn
    rw [valV_neg hk] at hn
    have ih := valV_snoc k j y r hn
    by_cases e : p.1 = j
    · rw [valV_pos e, valV_pos e, if_neg (fun z => hk (e.trans z))]
    · rw [valV_neg e, valV_neg e, ih]
theorem valV_put (kvs : List (κ × V)) (k j : κ) (y : V) : valV (putK kvs k y) j = if j = k then some y else valV kvs j := by
  unfold putK
  by_cases a : (kvs.any fun kv => decide (kv.1 = k)) = true
  · rw [if_pos a, valV_map]
    rw [valV_any] at a
    by_cases e : j = k
    · obtain ⟨x, hx⟩ := Option.isSome_iff_exists.mp a
      rw [if_pos e, e, hx, Option.map_some, if_pos rfl]
    · rw [if_neg e]
      cases valV kvs j with
      | none => rfl
      | some x => rw [Option.map_some, if_neg e]
  · rw [if_neg a]
    refine valV_snoc k j y kvs ?_
    rw [valV_any] at a
    cases q : valV kvs k with
    | none => rfl
    | some x => rw [q] at a; exact (a rfl).elim
theorem length_putK (kvs : List (κ × V)) (k : κ) (v : V) : (putK kvs k v).length ≤ kvs.length + 1 := by
  unfold putK
  split
  · rw [List.length_map]; omega
  · rw [List.length_append, List.length_cons, List.length_nil]; omega
theorem putK_new {kvs : List (κ × V)} {k : κ} (v : V) (h : valV kvs k = none) : putK kvs k v = kvs ++ [(k, v)] := by
  unfold putK
  rw [valV_any, h]
  exact if_neg (by decide)

theorem RelO.isSome_eq {o : Option V} {u : Option Value} (r : RelO o u) : o.isSome = u.isSome := by
  cases o with
  | none => cases u with
    | none => rfl
    | some _ => exact (show False from r).elim
  | some _ => cases u with
    | none => exact (show False from r).elim
    | some _ => rfl
theorem RelO.getD {o : Option V} {u : Option Value} {d : V} {d' : Value} (r : RelO o u) (rd : RelV d d') : RelV (o.getD d) (u.getD d') := by
  cases o with
  | none => cases u with
    | none => exact rd
    | some _ => exact (show False from r).elim
  | some _ => cases u with
    | none => exact (show False from r).elim
    | some _ => exact r

/-- raw tables of the same keys -/
theorem KV.val {kvs : List (κ × V)} {vs : List (κ × Value)} (r : KV kvs vs) (k : κ) : RelO (valV kvs k) (valueAt vs k) := by
  unfold KV at r
  induction r with
  | nil => exact True.intro
  | @cons p q ps qs h t ih =>
    obtain ⟨h1, h2⟩ := h
    by_cases e : p.1 = k
    · have e' : q.1 = k := h1.symm.trans e
      have b : valueAt (q :: qs) k = some q.2 := by simp [valueAt, List.find?_cons, e']
      rw [valV_pos e, b]; exact h2
    · have e' : ¬ q.1 = k := fun z => e (h1.trans z)
      have b : valueAt (q :: qs) k = valueAt qs k := by simp [valueAt, List.find?_cons, e']
      rw [valV_neg e, b]; exact ih
theorem KV.any {kvs : List (κ × V)} {vs : List (κ × Value)} (r : KV kvs vs) (k : κ) : (kvs.any fun kv => decide (kv.1 = k)) = vs.any fun kv => decide (kv.1 = k) := by
  unfold KV at r
  induction r with
  | nil => rfl
  | cons h t ih => rw [List.any_cons, List.any_cons, ih, h.1]
theorem KV.repl {kvs : List (κ × V)} {vs : List (κ × Value)} (r : KV kvs vs) (k : κ) {y : V} {u : Value} (ry : RelV y u) :
    KV (kvs.map fun kv => if kv.1 = k then (kv.1, y) else kv) (vs.map fun kv => if kv.1 = k then (kv.1, u) else kv) := by
  unfold KV at r ⊢
  induction r with
  | nil => exact .nil
  | @cons p q ps qs h t ih =>
    rw [List.map_cons, List.map_cons]
    refine .cons ?_ ih
    obtain ⟨h1, h2⟩ := h
    by_cases e : p.1 = k
    · rw [if_pos e, if_pos (h1.symm.trans e)]; exact ⟨h1, ry⟩
    · rw [if_neg e, if_neg (fun z => e (h1.trans z))]; exact ⟨h1, h2⟩
theorem KV.put {kvs : List (κ × V)} {vs : List (κ × Value)} (r : KV kvs vs) (k : κ) {y : V} {u : Value} (ry : RelV y u) : KV (putK kvs k y) (stored vs k u) := by
  unfold putK stored
  rw [r.any k]
  by_cases e : (vs.any fun kv => decide (kv.1 = k)) = true
  · rw [if_pos e, if_pos e]; exact r.repl k ry
  · rw [if_neg e, if_neg e]; exact Paired.snoc r ⟨rfl, ry⟩
theorem KV.drop {kvs : List (κ × V)} {vs : List (κ × Value)} (r : KV kvs vs) (k : κ) : KV (dropK kvs k) (without vs k) := by
  unfold KV at r ⊢
  unfold dropK without
  induction r with
  | nil => exact .nil
  | @cons p q ps qs h t ih =>
    obtain ⟨h1, h2⟩ := h
    rw [List.filter_cons, List.filter_cons]
    by_cases e : p.1 = k
    · have a : ¬ decide (p.1 ≠ k) = true := by simp [e]
      have b : ¬ decide (q.1 ≠ k) = true := by simp [h1.symm.trans e]
      rw [if_neg a, if_neg b]; exact ih
    · have e' : ¬ q.1 = k := fun z => e (h1.trans z)
      have a : decide (p.1 ≠ k) = true := by simp [e]
      have b : decide (q.1 ≠ k) = true := by simp [e']
      rw [if_pos a, if_pos b]; exact .cons ⟨h1, h2⟩ ih
theorem KV.keys {kvs : List (κ × V)} {vs : List (κ × Value)} (r : KV kvs vs) : kvs.map (·.1) = vs.map (·.1) := by
  unfold KV at r
  induction r with
  | nil => rfl
  | cons h t ih => rw [List.map_cons, List.map_cons, ih, h.1]
theorem KV.length {kvs : List (κ × V)} {vs : List (κ × Value)} (r : KV kvs vs) : kvs.length = vs.length := Paired.length r
theorem dropK_le (kvs : List (κ × V)) (k : κ) : (dropK kvs k).length ≤ kvs.length := List.length_filter_le _ _
end


/-! ### a tracked dict, its keys ints and texts or tuples of these -/
theorem kV_is {P : Program} {w : World} {k : Key} {u : Value} (r : RelV (kV k) u) : (mixKind P w).is k u = true := by
  cases k with
  | inl i => obtain ⟨t, e⟩ := (show ∃ t, u = Value.int i t from r); subst e; exact mixKind_int P w i t
  | inr x => obtain ⟨t, e⟩ := (show ∃ t, u = Value.str x t from r); subst e; exact mixKind_str P w x t
theorem kV_inj {a b : Key} (e : kV a = kV b) : a = b := by
  cases a with
  | inl i => cases b with
    | inl j => have e' : V.int i = V.int j := e; injection e' with e'; rw [e']
    | inr y => exact nomatch (show V.int i = V.str y from e)
  | inr x => cases b with
    | inl j => exact nomatch (show V.str x = V.int j from e)
    | inr y => have e' : V.str x = V.str y := e; injection e' with e'; rw [e']
theorem kVs_inj : ∀ {a b : List Key}, a.map kV = b.map kV → a = b
  | [], [], _ => rfl
  | [], _ :: _, e => by simp at e
  | _ :: _, [], e => by simp at e
  | x :: xs, y :: ys, e => by
    rw [List.map_cons, List.map_cons] at e
    injection e with e1 e2
    rw [kV_inj e1, kVs_inj e2]
theorem items_are {P : Program} {w : World} : ∀ {ks : List Key} {us : List Value}, Vals (ks.map kV) us → ItemsAre (mixKind P w) ks us
  | [], _, r => by rw [List.map_nil] at r; cases r; exact .nil
  | k :: ks, _, r => by
    rw [List.map_cons] at r
    cases r with
    | cons h t => exact .cons (kV_is h) (items_are t)

/-- raw entries of a dict with tuple keys -/
abbrev KT (H : Hp) : List (List Key × V) → List (List Key × Addr × Value) → Prop := Paired fun p q => p.1 = q.1 ∧ H q.2.1 = some (.tup (p.1.map kV)) ∧ RelV p.2 q.2.2
theorem KT.val {H : Hp} {kvs : List (List Key × V)} {xs : List (List Key × Addr × Value)} (r : KT H kvs xs) (k : List Key) : RelO (valV kvs k) ((atKey xs k).map (·.2)) := by
  induction r with
  | nil => exact True.intro
  | @cons p q ps qs h t ih =>
    obtain ⟨h1, _, h2⟩ := h
    by_cases e : p.1 = k
    · have e' : q.1 = k := h1.symm.trans e
      have b : atKey (q :: qs) k = some q.2 := by simp [atKey, List.find?_cons, e']
      rw [valV_pos e, b]; exact h2
    · have e' : ¬ q.1 = k := fun z => e (h1.trans z)
      have b : atKey (q :: qs) k = atKey qs k := by simp [atKey, List.find?_cons, e']
      rw [valV_neg e, b]; exact ih
theorem KT.repl {H : Hp} {kvs : List (List Key × V)} {xs : List (List Key × Addr × Value)} (r : KT H kvs xs) (k : List Key) {y : V} {u : Value} (ry : RelV y u) :
    KT H (kvs.map fun kv => if kv.1 = k then (kv.1, y) else kv) (xs.map (putAt k u)) := by
  induction r with
  | nil => exact .nil
  | @cons p q ps qs h t ih =>
    rw [List.map_cons, List.map_cons]
    refine .cons ?_ ih
    obtain ⟨h1, h2, h3⟩ := h
    unfold putAt
    by_cases e : p.1 = k
    · rw [if_pos e, if_pos (h1.symm.trans e)]; exact ⟨h1, h2, ry⟩
    · rw [if_neg e, if_neg (fun z => e (h1.trans z))]; exact ⟨h1, h2, h3⟩
theorem KT.put {H : Hp} {kvs : List (List Key × V)} {xs : List (List Key × Addr × Value)} (r : KT H kvs xs) (k : List Key) {b : Addr} {y : V} {u : Value} (hb : H b = some (.tup (k.map kV))) (ry : RelV y u) :
    KT H (putK kvs k y) (storedH xs k b u) := by
  have e : (kvs.any fun kv => decide (kv.1 = k)) = (atKey xs k).isSome := by
    rw [valV_any, (r.val k).isSome_eq, Option.isSome_map]
  unfold putK storedH
  rw [e]
  by_cases q : (atKey xs k).isSome = true
  · rw [if_pos q, if_pos q]; exact r.repl k ry
  · rw [if_neg q, if_neg q]; exact Paired.snoc r ⟨rfl, hb, ry⟩
theorem KT.keeps {H H' : Hp} {kvs : List (List Key × V)} {xs : List (List Key × Addr × Value)} (r : KT H kvs xs) (ht : ∀ b ys, H b = some (.tup ys) → H' b = some (.tup ys)) : KT H' kvs xs :=
  Paired.mapP r fun _ _ z => ⟨z.1, ht _ _ z.2.1, z.2.2⟩

section
variable {P : Program} {w : World} {H : Hp} {h : Heap} {a : Addr}
theorem rd_of {u : HO} (ok : HOk P w H h) (e : Rd H a u) : ObjOk P w H h a u := e.ok ok
theorem dk_rd {kvs : List (Key × V)} (ok : HOk P w H h) (e : Rd H a (.dK kvs)) : kvs.length ≤ sizeLine ∧ (a == sysModules) = false ∧ ∃ vs, KV kvs vs ∧ h.DictOf (mixKind P w) a vs :=
  show ObjOk P w H h a (.dK kvs) from rd_of ok e
theorem dk_of {kvs : List (Key × V)} (ok : HOk P w H h) (e : H a = some (.dK kvs)) : kvs.length ≤ sizeLine ∧ (a == sysModules) = false ∧ ∃ vs, KV kvs vs ∧ h.DictOf (mixKind P w) a vs := dk_rd ok (.inl e)
/-- a tracked tuple of ints and texts is a key -/
theorem key_of {ks : List Key} (ok : HOk P w H h) (e : H a = some (.tup (ks.map kV))) : (tupleKind (mixKind P w)).is h ks a := by
  obtain ⟨_, its, r, o, h1, h2, n, h3⟩ := (show ObjOk P w H h a (.tup (ks.map kV)) from ok a _ e)
  exact ⟨o, its.toArray, n, h1, h2, h3, by simpa using items_are r⟩
theorem dt_rd {kvs : List (List Key × V)} (ok : HOk P w H h) (e : Rd H a (.dT kvs)) : kvs.length ≤ sizeLine ∧ (a == sysModules) = false ∧
    ∃ xs, KT H kvs xs ∧ h.DictOfH (tupleKind (mixKind P w)) a xs := by
  obtain ⟨z, y, xs, r, o, es, ep, h1, h2, h3, h4, h5⟩ := (show ObjOk P w H h a (.dT kvs) from rd_of ok e)
  refine ⟨z, y, xs, r, o, es, ep, h1, h2, h3, h4, fun x hx => ?_, h5⟩
  have all : ∀ {l : List (List Key × V)} {m : List (List Key × Addr × Value)}, KT H l m → ∀ x ∈ m, (tupleKind (mixKind P w)).is h x.1 x.2.1 := by
    intro l m q
    induction q with
    | nil => intro x hx; exact nomatch hx
    | @cons p q ps qs hq t ih =>
      intro x hx
      rcases List.mem_cons.mp hx with e | hx
      · subst e
        exact key_of ok (by rw [← hq.1]; exact hq.2.1)
      · exact ih x hx
  exact all r x hx
theorem dt_of {kvs : List (List Key × V)} (ok : HOk P w H h) (e : H a = some (.dT kvs)) : kvs.length ≤ sizeLine ∧ (a == sysModules) = false ∧
    ∃ xs, KT H kvs xs ∧ h.DictOfH (tupleKind (mixKind P w)) a xs := dt_rd ok (.inl e)
end

/-- what the dict at a holds at the key y -/
def DGet (H : Hp) (a : Addr) (y : V) (r : Option V) : Prop :=
  (∃ kvs k, Rd H a (.dK kvs) ∧ y = kV k ∧ r = valV kvs k) ∨ ∃ kvs k b, Rd H a (.dT kvs) ∧ y = .ref b ∧ H b = some (.tup (k.map kV)) ∧ r = valV kvs k
/-- the heap behind a[y] = v -/
def DPut (H : Hp) (a : Addr) (y v : V) (H' : Hp) : Prop :=
  (∃ kvs k, H a = some (.dK kvs) ∧ y = kV k ∧ kvs.length < sizeLine ∧ H' = upd H a (.dK (putK kvs k v))) ∨
  ∃ kvs k b, H a = some (.dT kvs) ∧ y = .ref b ∧ H b = some (.tup (k.map kV)) ∧ kvs.length < sizeLine ∧ H' = upd H a (.dT (putK kvs k v))
theorem DGet.k {H : Hp} {a : Addr} {kvs : List (Key × V)} {k : Key} (e : H a = some (.dK kvs)) : DGet H a (kV k) (valV kvs k) := .inl ⟨kvs, k, .inl e, rfl, rfl⟩
theorem DGet.t {H : Hp} {a b : Addr} {kvs : List (List Key × V)} {k : List Key} (e : H a = some (.dT kvs)) (eb : H b = some (.tup (k.map kV))) : DGet H a (.ref b) (valV kvs k) := .inr ⟨kvs, k, b, .inl e, rfl, eb, rfl⟩
theorem DPut.k {H : Hp} {a : Addr} {kvs : List (Key × V)} {k : Key} {v : V} (e : H a = some (.dK kvs)) (hl : kvs.length < sizeLine) : DPut H a (kV k) v (upd H a (.dK (putK kvs k v))) := .inl ⟨kvs, k, e, rfl, hl, rfl⟩
theorem DPut.t {H : Hp} {a b : Addr} {kvs : List (List Key × V)} {k : List Key} {v : V} (e : H a = some (.dT kvs)) (eb : H b = some (.tup (k.map kV))) (hl : kvs.length < sizeLine) :
    DPut H a (.ref b) v (upd H a (.dT (putK kvs k v))) := .inr ⟨kvs, k, b, e, rfl, eb, hl, rfl⟩


section
variable {X : Cx} {pins : List (Addr × Obj)} {σ : St} {H : Hp} {s : Shared} {a : Addr} {y v : V} {u r : Value} {o : Option V} {A : Around} {E : Value → Shared → Prop}

theorem Inv.big (I : Inv X pins σ H s) : sysModules < s.heap.objs.size := by
  have h : mainGlobals < s.heap.objs.size := (I.mod.glob.keeps I.bk).lt
  exact Nat.lt_trans (by decide) h

/-- d[y], there -/
theorem d_getItem {Q : Value → Shared → Prop} (hu : A.units + 1 < cLine) (I : Inv X pins σ H s) (g : DGet H a y (some v)) (ry : RelV y u) (h : ∀ w' s', Inv X pins σ H s' → RelV v w' → Q w' s') :
    wpAny (model X.prog X.w) A (getItem (.ref a) u) Q E s := by
  rcases g with ⟨kvs, k, e, ey, l⟩ | ⟨kvs, k, b, e, ey, eb, l⟩
  · subst ey
    obtain ⟨z, hd, vs, rel, dd⟩ := dk_rd I.hok e
    obtain ⟨w', hw, rw'⟩ := RelO.some_of (v := v) (o := valueAt vs k) (by rw [l]; exact rel.val k)
    exact wpAny_getItem_of (kV_is ry) dd.mapOf hw (h w' _ (I.tok _) rw')
  · subst ey
    cases (show u = Value.ref b from ry)
    obtain ⟨z, hd, xs, rel, dd⟩ := dt_rd I.hok e
    obtain ⟨w', hw, rw'⟩ := RelO.some_of (v := v) (o := (atKey xs k).map (·.2)) (by rw [l]; exact rel.val k)
    obtain ⟨p, hp, hp2⟩ := Option.map_eq_some_iff.mp hw
    refine wpAny_getItem_heap (tupleKind_room_in1 hu) (key_of I.hok eb) dd hp ?_
    rw [hp2]
    exact h w' _ (I.tok _) rw'
/-- y in d -/
theorem d_in {Q : Value → Shared → Prop} (hu : A.units + 1 < cLine) (I : Inv X pins σ H s) (g : DGet H a y o) (ry : RelV y u) (h : ∀ s', Inv X pins σ H s' → Q (.bool o.isSome) s') :
    wpAny (model X.prog X.w) A (compareOp .In u (.ref a)) Q E s := by
  rcases g with ⟨kvs, k, e, ey, l⟩ | ⟨kvs, k, b, e, ey, eb, l⟩
  · subst ey
    obtain ⟨z, hd, vs, rel, dd⟩ := dk_rd I.hok e
    refine wpAny_in_of (kV_is ry) hd dd.mapOf ?_
    rw [← (rel.val k).isSome_eq, ← l]
    exact h _ (I.tok _)
  · subst ey
    cases (show u = Value.ref b from ry)
    obtain ⟨z, hd, xs, rel, dd⟩ := dt_rd I.hok e
    refine wpAny_in_heap (tupleKind_room_in1 hu) (key_of I.hok eb) hd dd ?_
    have q := (rel.val k).isSome_eq
    rw [Option.isSome_map] at q
    rw [← q, ← l]
    exact h _ (I.tok _)
theorem d_notIn {Q : Value → Shared → Prop} (hu : A.units + 1 < cLine) (I : Inv X pins σ H s) (g : DGet H a y o) (ry : RelV y u) (h : ∀ s', Inv X pins σ H s' → Q (.bool (!o.isSome)) s') :
    wpAny (model X.prog X.w) A (compareOp .NotIn u (.ref a)) Q E s := by
  rcases g with ⟨kvs, k, e, ey, l⟩ | ⟨kvs, k, b, e, ey, eb, l⟩
  · subst ey
    obtain ⟨z, hd, vs, rel, dd⟩ := dk_rd I.hok e
    refine wpAny_notIn_of (kV_is ry) hd dd.mapOf ?_
    rw [← (rel.val k).isSome_eq, ← l]
    exact h _ (I.tok _)
  · subst ey
    cases (show u = Value.ref b from ry)
    obtain ⟨z, hd, xs, rel, dd⟩ := dt_rd I.hok e
    refine wpAny_notIn_heap (tupleKind_room_in1 hu) (key_of I.hok eb) hd dd ?_
    have q := (rel.val k).isSome_eq
    rw [Option.isSome_map] at q
    rw [← q, ← l]
    exact h _ (I.tok _)
/-- a dict's object is replaced -/
theorem d_write {h' : Heap} {t' : Nat} {ob : HO} (I : Inv X pins σ H s) (mu : Mut (H a)) (hs : Heap.SameBut a s.heap h') (he : ∃ q, h'.get? a = some q) (new : ObjOk X.prog X.w (upd H a ob) h' a ob) :
    Inv X pins σ (upd H a ob) { s with heap := h', toks := t' } :=
  I.write (x := a) (e := a) mu (.inl rfl) (fun b q hb z => (hs.2 b hb).trans z) he new
theorem dk_new {P : Program} {w : World} {H' : Hp} {h' : Heap} {kvs : List (Key × V)} {vs : List (Key × Value)} (z : kvs.length ≤ sizeLine) (hd : (a == sysModules) = false) (rel : KV kvs vs) (dd : h'.DictOf (mixKind P w) a vs) :
    ObjOk P w H' h' a (.dK kvs) := ⟨z, hd, vs, rel, dd⟩
/-- d[y] = v -/
theorem d_setItem {H' : Hp} {Q : Unit → Shared → Prop} (hu : A.units + 1 < cLine) (I : Inv X pins σ H s) (g : DPut H a y v H') (ry : RelV y u) (rv : RelV v r) (h : ∀ s', Inv X pins σ H' s' → Q () s') :
    wpAny (model X.prog X.w) A (setItem (.ref a) u r) Q E s := by
  rcases g with ⟨kvs, k, e, ey, l, eH⟩ | ⟨kvs, k, b, e, ey, eb, l, eH⟩
  · subst ey eH
    obtain ⟨z, hd, vs, rel, dd⟩ := dk_of I.hok e
    have hz : vs.length ≤ sizeLine := by rw [← rel.length]; exact z
    have hl : (putK kvs k v).length ≤ sizeLine := by have := length_putK kvs k v; omega
    refine wpAny_setItem_pairs (hsz := hz) (kV_is ry) dd fun h' dd' hs => h _ ?_
    have he : ∃ q, h'.get? a = some q := let ⟨q, _, _, hq, _⟩ := dd'; ⟨q, hq⟩
    exact d_write I (by rw [e]; exact True.intro) hs he (dk_new hl hd (rel.put k rv) dd')
  · subst ey eH
    cases (show u = Value.ref b from ry)
    obtain ⟨z, hd, xs, rel, dd⟩ := dt_of I.hok e
    have hz : xs.length ≤ sizeLine := by rw [← Paired.length rel]; exact z
    have hl : (putK kvs k v).length ≤ sizeLine := by have := length_putK kvs k v; omega
    refine wpAny_setItem_heap (hsz := hz) (tupleKind_room_in1 hu) (key_of I.hok eb) dd fun h' dd' hs => h _ ?_
    obtain ⟨q, es, ep, hq, h2, h3, h4, _, h5⟩ := dd'
    refine d_write I (by rw [e]; exact True.intro) hs ⟨q, hq⟩ ⟨hl, hd, _, (rel.put k eb rv).keeps fun c ys ec => ?_, q, es, ep, hq, h2, h3, h4, h5⟩
    rw [upd_ne (ne_of ec e (fun z => nomatch z))]
    exact ec
end

section
variable {X : Cx} {pins : List (Addr × Obj)} {σ : St} {H : Hp} {s : Shared} {a : Addr} {kvs : List (Key × V)} {k : Key} {u : Value} {A : Around} {E : Value → Shared → Prop}
/-- del d[k] -/
theorem d_delItem {Q : Unit → Shared → Prop} (I : Inv X pins σ H s) (e : H a = some (.dK kvs)) (ry : RelV (kV k) u) (l : (valV kvs k).isSome = true) (h : ∀ s', Inv X pins σ (upd H a (.dK (dropK kvs k))) s' → Q () s') :
    wpAny (model X.prog X.w) A (delItem (.ref a) u) Q E s := by
  obtain ⟨z, hd, vs, rel, dd⟩ := dk_of I.hok e
  refine wpAny_delItem_slot dd.typeIs (by decide) PySem.F.slot_dict_delitem
    (call_meetsIn PySem.F.slot_dict_delitem dd.typeIs PySem.F.entry_dict_delitem (PySem.F.args_dict_delitem_2 _ _) (meets_dict_delitem_pairs (mixKind X.prog X.w) a (kV_is ry)) ⟨vs, dd, by rw [← rel.length]; exact z, by rw [← (rel.val k).isSome_eq]; exact l, fun h' dd' hs => h _ ?_⟩)
  have he : ∃ q, h'.get? a = some q := let ⟨q, _, _, hq, _⟩ := dd'; ⟨q, hq⟩
  exact d_write I (by rw [e]; exact True.intro) hs he (dk_new (Nat.le_trans (dropK_le kvs k) z) hd (rel.drop k) dd')
/-- d.pop(k[, x]), there -/
theorem d_pop {v : V} {more : List Value} {Q : Value → Shared → Prop} (I : Inv X pins σ H s) (e : H a = some (.dK kvs)) (ry : RelV (kV k) u) (l : valV kvs k = some v) (hm : more = [] ∨ ∃ x, more = [x])
    (h : ∀ w' s', Inv X pins σ (upd H a (.dK (dropK kvs k))) s' → RelV v w' → Q w' s') : wpAny (model X.prog X.w) A (call (.builtin "dict.pop") (.ref a :: u :: more)) Q E s := by
  obtain ⟨z, hd, vs, rel, dd⟩ := dk_of I.hok e
  obtain ⟨w', hw, rw'⟩ := RelO.some_of (v := v) (o := valueAt vs k) (by rw [← l]; exact rel.val k)
  have hp : (keyPart u).isSome = true := by
    cases k with
    | inl i => obtain ⟨t, q⟩ := (show ∃ t, u = Value.int i t from ry); subst q; rfl
    | inr x => obtain ⟨t, q⟩ := (show ∃ t, u = Value.str x t from ry); subst q; rfl
  have ha : argsOk "dict.pop" ⟨.ref a :: u :: more, []⟩ := by
    rcases hm with q | ⟨x, q⟩
    · subst q; exact PySem.F.args_dict_pop_2 _ _
    · subst q; exact PySem.F.args_dict_pop_3 _ _ _
  refine call_meetsIn PySem.F.slot_dict_pop dd.typeIs PySem.F.entry_dict_pop ha (meets_dict_pop_there (mixKind X.prog X.w) a (kV_is ry) more hm hp)
    ⟨vs, w', dd, by rw [← rel.length]; exact z, hw, fun h' dd' hs => h w' _ ?_ rw'⟩
  have he : ∃ q, h'.get? a = some q := let ⟨q, _, _, hq, _⟩ := dd'; ⟨q, hq⟩
  exact d_write I (by rw [e]; exact True.intro) hs he (dk_new (Nat.le_trans (dropK_le kvs k) z) hd (rel.drop k) dd')
/-- d.pop(k, x), not there -/
theorem d_popD {r : Value} {Q : Value → Shared → Prop} (I : Inv X pins σ H s) (e : H a = some (.dK kvs)) (ry : RelV (kV k) u) (l : valV kvs k = none) (h : ∀ s', Inv X pins σ H s' → Q r s') :
    wpAny (model X.prog X.w) A (call (.builtin "dict.pop") [.ref a, u, r]) Q E s := by
  obtain ⟨z, hd, vs, rel, dd⟩ := dk_of I.hok e
  have hn : valueAt vs k = none := RelO.none_of (by rw [← l]; exact rel.val k)
  have hp : (keyPart u).isSome = true := by
    cases k with
    | inl i => obtain ⟨t, q⟩ := (show ∃ t, u = Value.int i t from ry); subst q; rfl
    | inr x => obtain ⟨t, q⟩ := (show ∃ t, u = Value.str x t from ry); subst q; rfl
  exact call_meetsIn PySem.F.slot_dict_pop dd.typeIs PySem.F.entry_dict_pop (PySem.F.args_dict_pop_3 _ _ _) (meets_dict_pop_default (mixKind X.prog X.w) a (kV_is ry) hd hp r) ⟨vs, dd, hn, h _ (I.tok _)⟩
/-- d.clear() -/
theorem d_clear {Q : Value → Shared → Prop} (I : Inv X pins σ H s) (e : H a = some (.dK kvs)) (h : ∀ s', Inv X pins σ (upd H a (.dK [])) s' → Q .none s') : wpAny (model X.prog X.w) A (call (.builtin "dict.clear") [.ref a]) Q E s := by
  obtain ⟨z, hd, vs, rel, dd⟩ := dk_of I.hok e
  refine call_meetsIn PySem.F.slot_dict_clear dd.typeIs PySem.F.entry_dict_clear (PySem.F.args_dict_clear_1 _) (meets_dict_clear (mixKind X.prog X.w) a) ⟨vs, dd, by rw [← rel.length]; exact z, fun h' dd' hs => h _ ?_⟩
  have he : ∃ q, h'.get? a = some q := let ⟨q, _, _, hq, _⟩ := dd'; ⟨q, hq⟩
  exact d_write (t' := s.toks) I (by rw [e]; exact True.intro) hs he (dk_new (Nat.zero_le _) hd .nil dd')
/-- len(d) -/
theorem d_len {Q : Value → Shared → Prop} (I : Inv X pins σ H s) (e : Rd H a (.dK kvs)) (h : ∀ t s', Inv X pins σ H s' → Q (.int kvs.length t) s') : wpAny (model X.prog X.w) A (call (.builtin "len") [.ref a]) Q E s := by
  obtain ⟨z, hd, vs, rel, dd⟩ := dk_rd I.hok e
  refine call_len_dict hd dd (by rw [← rel.length]; rw [sizeLine_eq] at z; omega) ?_
  rw [← rel.length]
  exact h _ _ (I.tok _)
/-- if d -/
theorem d_truth {Q : Bool → Shared → Prop} (I : Inv X pins σ H s) (e : Rd H a (.dK kvs)) (h : ∀ s', Inv X pins σ H s' → Q (!kvs.isEmpty) s') : wpAny (model X.prog X.w) A (truthy (.ref a)) Q E s := by
  obtain ⟨z, hd, vs, rel, dd⟩ := dk_rd I.hok e
  refine wpAny_truthy_dict hd dd (by rw [← rel.length]; rw [sizeLine_eq] at z; omega) ?_
  have q : kvs.isEmpty = vs.isEmpty := by cases rel <;> rfl
  rw [← q]
  exact h _ (I.tok _)
end


/-! ### readings and rules -/
/-- the element of a subscription, not a slice -/
def NoSl (i : Expr) : Prop := ∀ ov iv, subscripted i false ov iv = operate [ov, iv] (getItem ov iv)
theorem subD_of {prog : Program} {w : World} {A : Around} {E : Value → Shared → Prop} {s : Shared} {env : Env} {value slice : Expr} {pos : Pos} {T id : String} {Q : Value → Shared → Prop}
    (hl : typeLookup (.type T) "__getitem__" = pure (some (.builtin id))) (hs : NoSl slice)
    (h : wpAny (model prog w) A (eval value env) (fun o s₁ => wpAny (model prog w) A (eval slice env) (fun i s₂ => s₂.TypeIs o T ∧ wpAny (model prog w) A (getItem o i) Q E s₂) E s₁) E s) :
    wpAny (model prog w) A (eval (.Subscript value slice pos) env) Q E s := by
  refine Subscript_ (wpAny_mono h (fun o s₁ h₁ => wpAny_mono h₁ (fun i s₂ h₂ => ?_) fun _ _ x => x) fun _ _ x => x)
  obtain ⟨hT, h₂⟩ := h₂
  unfold subscriptTail
  refine wpAny_bind ?_
  rw [getitemInPython_of_ne hT.not_modules]
  refine wpAny_bind (wpAny_specialOf hT hl ?_)
  have fin : wpAny (model prog w) A (subscripted slice false o i) (fun r s₃ => wpAny (model prog w) A (letTemporaryGo value o r >>= fun _ => pure r) Q E s₃) E s₂ := by
    rw [hs o i]
    exact wpAny_operating (wpAny_mono h₂ (fun r s₃ h₃ => wpAny_bind (wpAny_letTemporaryGo (wpAny_pure h₃))) fun _ _ x => x)
  first
    | exact wpAny_pure (wpAny_bind fin)
    | exact wpAny_bind (wpAny_pure (wpAny_bind fin))
    | exact wpAny_bind fin

theorem dict_typeIs {X : Cx} {pins : List (Addr × Obj)} {σ : St} {H : Hp} {s : Shared} {a : Addr} {y : V} {o : Option V} (I : Inv X pins σ H s) (g : DGet H a y o) : s.TypeIs (.ref a) "dict" := by
  rcases g with ⟨kvs, k, e, _, _⟩ | ⟨kvs, k, b, e, _, _, _⟩
  · obtain ⟨_, _, vs, _, dd⟩ := dk_rd I.hok e
    exact dd.typeIs
  · obtain ⟨_, _, xs, _, dd⟩ := dt_rd I.hok e
    exact dd.typeIs
theorem dict_noDict {X : Cx} {pins : List (Addr × Obj)} {σ : St} {H : Hp} {s : Shared} {a : Addr} {y : V} {o : Option V} (I : Inv X pins σ H s) (g : DGet H a y o) :
    ∀ b, Value.ref a = .ref b → ∃ ob, s.heap.get? b = some ob ∧ ob.dict = none := fun b q => by
  cases q
  rcases g with ⟨kvs, k, e, _, _⟩ | ⟨kvs, k, b, e, _, _, _⟩
  · obtain ⟨_, _, vs, _, ob, _, _, h1, h2, _⟩ := dk_rd I.hok e
    exact ⟨ob, h1, h2.2.1⟩
  · obtain ⟨_, _, xs, _, ob, _, _, h1, h2, _⟩ := dt_rd I.hok e
    exact ⟨ob, h1, h2.2.1⟩

/-- d[y] -/
def tDGet (td ty : TE) : TE := fun σ H Q => td σ H fun x H1 => ty σ H1 fun y H2 => ∃ a v, x = .ref a ∧ DGet H2 a y (some v) ∧ Q v H2
/-- y in d, y not in d -/
def tDIn (ty td : TE) : TE := fun σ H Q => ty σ H fun y H1 => td σ H1 fun x H2 => ∃ a o, x = .ref a ∧ DGet H2 a y o ∧ Q (.bl o.isSome) H2
def tDNotIn (ty td : TE) : TE := fun σ H Q => ty σ H fun y H1 => td σ H1 fun x H2 => ∃ a o, x = .ref a ∧ DGet H2 a y o ∧ Q (.bl (!o.isSome)) H2
/-- d[y] = v -/
def sDPut (td ty tv : TE) : TS := fun D σ H => tv σ H fun v H1 => td σ H1 fun x H2 => ty σ H2 fun y H3 => ∃ a H4, x = .ref a ∧ DPut H3 a y v H4 ∧ D.nx σ H4
/-- d[y] op= v -/
def sDAug (td ty tv : TE) (rd : V → V → Hp → VK → Prop) : TS := fun D σ H => td σ H fun x H1 => ty σ H1 fun y H2 => ∃ a v, x = .ref a ∧ DGet H2 a y (some v) ∧
  tv σ H2 fun y2 H3 => rd v y2 H3 fun z H4 => ∃ H5, DPut H4 a y z H5 ∧ D.nx σ H5
/-- del d[y] -/
def sDDel (td ty : TE) : TS := fun D σ H => td σ H fun x H1 => ty σ H1 fun y H2 => ∃ a kvs k, x = .ref a ∧ H2 a = some (.dK kvs) ∧ y = kV k ∧ (valV kvs k).isSome = true ∧ D.nx σ (upd H2 a (.dK (dropK kvs k)))

section
variable {X : Cx} {o i e value : Expr} {pos pos' tpos : Pos} {td ty tv : TE}
theorem pe_dget (hu : X.A.units + 1 < cLine) (ho : PE X o td) (hi : PE X i ty) (hs : NoSl i) : PE X (.Subscript o i pos) (tDGet td ty) := by
  intro pins s σ H Q I h
  refine subD_of PySem.F.slot_dict_getitem.lookup hs (thn (ho pins s σ H _ I h) fun u s1 ⟨x, H1, I1, rx, q1⟩ => thn (hi pins s1 σ H1 _ I1 q1) fun iv s2 ⟨y, H2, I2, ry, a, v, ex, g, q2⟩ => ?_)
  subst ex
  obtain rfl : u = Value.ref a := rx
  exact ⟨dict_typeIs I2 g, d_getItem hu I2 g ry fun w' s3 I3 rw' => ⟨v, H2, I3, rw', q2⟩⟩
theorem pc_din (hu : X.A.units + 1 < cLine) (hi : PE X i ty) (ho : PE X o td) : PC X .In i o (tDIn ty td) := by
  intro pins s σ H Q I h
  refine thn (hi pins s σ H _ I h) fun iv s1 ⟨y, H1, I1, ry, q1⟩ => thn (ho pins s1 σ H1 _ I1 q1) fun u s2 ⟨x, H2, I2, rx, a, ov, ex, g, q2⟩ => ?_
  subst ex
  obtain rfl : u = Value.ref a := rx
  exact d_in hu I2 g ry fun s3 I3 => ⟨.bl ov.isSome, H2, I3, rfl, q2⟩
theorem pc_dnotin (hu : X.A.units + 1 < cLine) (hi : PE X i ty) (ho : PE X o td) : PC X .NotIn i o (tDNotIn ty td) := by
  intro pins s σ H Q I h
  refine thn (hi pins s σ H _ I h) fun iv s1 ⟨y, H1, I1, ry, q1⟩ => thn (ho pins s1 σ H1 _ I1 q1) fun u s2 ⟨x, H2, I2, rx, a, ov, ex, g, q2⟩ => ?_
  subst ex
  obtain rfl : u = Value.ref a := rx
  exact d_notIn hu I2 g ry fun s3 I3 => ⟨.bl (!ov.isSome), H2, I3, rfl, q2⟩
theorem ps_dput (hu : X.A.units + 1 < cLine) (ho : PE X o td) (hi : PE X i ty) (hv : PE X value tv) (hs : swapsWith value (some (.Subscript o i pos')) pos.line X.env = pure false) :
    PS X (.Assign [.Subscript o i pos'] value pos) (sDPut td ty tv) := by
  intro pins s σ H D I h
  refine wpAny_Assign_Subscript (thn (hv pins s σ H _ I h) fun r s1 ⟨v, H1, I1, rv, q1⟩ => thn (ho pins s1 σ H1 _ I1 q1) fun u s2 ⟨x, H2, I2, rx, q2⟩ => thn (hi pins s2 σ H2 _ I2 q2) fun iv s3 ⟨y, H3, I3, ry, a, H4, ex, g, q3⟩ => ?_) hs
  subst ex
  obtain rfl : u = Value.ref a := rx
  exact d_setItem hu I3 g ry rv fun s4 I4 => ⟨σ, H4, I4, q3⟩
theorem ps_daug {op : Operator} {rd : V → V → Hp → VK → Prop} (hu : X.A.units + 1 < cLine) (ho : PE X o td) (hi : PE X i ty) (hv : PE X value tv) (hop : InOp X op rd)
    (ha : ∀ ov iv new, augStore i ov iv new = (do holding [new, ov, iv] (setItem ov iv new); release [new, ov, iv] []; pure .next)) : PS X (.AugAssign (.Subscript o i tpos) op value pos) (sDAug td ty tv rd) := by
  intro pins s σ H D I h
  refine wpAny_AugAssign_SubscriptAny (thn (ho pins s σ H _ I h) fun u s1 ⟨x, H1, I1, rx, q1⟩ => thn (hi pins s1 σ H1 _ I1 q1) fun iv s2 ⟨y, H2, I2, ry, a, v, ex, g, q2⟩ => ?_) ha
  subst ex
  obtain rfl : u = Value.ref a := rx
  refine d_getItem hu I2 g ry fun w' s3 I3 rw' => thn (hv pins s3 σ H2 _ I3 q2) fun w2 s4 ⟨y2, H3, I4, ry2, q3⟩ => thn (hop pins s4 σ H3 v y2 w' w2 _ I4 rw' ry2 q3) fun w3 s5 ⟨z, H4, I5, rz, H5, g5, q4⟩ => ?_
  exact d_setItem hu I5 g5 ry rz fun s6 I6 => ⟨σ, H5, I6, q4⟩
theorem ps_ddel (ho : PE X o td) (hi : PE X i ty) : PS X (.Delete [.Subscript o i tpos] pos) (sDDel td ty) := by
  intro pins s σ H D I h
  refine wpAny_Delete (wpAny_deleteEach_cons (wpAny_delete_Subscript (thn (ho pins s σ H _ I h) fun u s1 ⟨x, H1, I1, rx, q1⟩ => thn (hi pins s1 σ H1 _ I1 q1) fun iv s2 ⟨y, H2, I2, ry, a, kvs, k, ex, e, ey, l, q2⟩ => ?_)))
  subst ex ey
  obtain rfl : u = Value.ref a := rx
  exact d_delItem I2 e ry l fun s3 I3 => wpAny_deleteEach_nil ⟨σ, _, I3, q2⟩
end


/-! ### displays -/
theorem dk_empty {P : Program} {w : World} {H : Hp} (h : Heap) (hb : sysModules < h.objs.size) : ObjOk P w H (h.push { cls := .type "dict", data := .dict #[] }) h.objs.size (.dK []) :=
  ⟨Nat.zero_le _, beq_eq_false_iff_ne.mpr (Ne.symm (Nat.ne_of_lt hb)), [], .nil, Heap.DictOf.new h⟩
theorem dt_empty {P : Program} {w : World} {H : Hp} (h : Heap) (hb : sysModules < h.objs.size) : ObjOk P w H (h.push { cls := .type "dict", data := .dict #[] }) h.objs.size (.dT []) :=
  ⟨Nat.zero_le _, beq_eq_false_iff_ne.mpr (Ne.symm (Nat.ne_of_lt hb)), [], .nil, _, #[], 0, Heap.get?_push_size _ rfl, ⟨rfl, rfl, rfl⟩, rfl, rfl, List.nodup_nil⟩
/-- {}, to be a dict of the kind that is wanted -/
def tDNewK : TE := fun _ H Q => ∀ p, H p = none → Q (.ref p) (upd H p (.dK []))
def tDNewT : TE := fun _ H Q => ∀ p, H p = none → Q (.ref p) (upd H p (.dT []))
section
variable {X : Cx} {pos : Pos}
theorem pe_dnewK : PE X (.Dict [] [] pos) tDNewK := fun pins s σ H Q I h =>
  wpAny_Dict_empty ⟨.ref s.heap.objs.size, _, I.laid (a := s.heap.objs.size) (o := .dK []) (t' := s.toks) (fun _ _ q => Heap.get?_push_of_some _ q) (Nat.le_refl _) (dk_empty s.heap I.big), rfl, h _ (I.hok.fresh (Nat.le_refl _))⟩
theorem pe_dnewT : PE X (.Dict [] [] pos) tDNewT := fun pins s σ H Q I h =>
  wpAny_Dict_empty ⟨.ref s.heap.objs.size, _, I.laid (a := s.heap.objs.size) (o := .dT []) (t' := s.toks) (fun _ _ q => Heap.get?_push_of_some _ q) (Nat.le_refl _) (dt_empty s.heap I.big), rfl, h _ (I.hok.fresh (Nat.le_refl _))⟩
end

/-- the pairs of a display, from the left -/
def tPairs : List (TE × TE) → St → Hp → (List (V × V) → Hp → Prop) → Prop
  | [], _, H, Q => Q [] H
  | (tk, tv) :: r, σ, H, Q => tk σ H fun x H1 => tv σ H1 fun y H2 => tPairs r σ H2 fun ps H3 => Q ((x, y) :: ps) H3
abbrev VV : List (V × V) → List (Value × Value) → Prop := Paired fun p q => RelV p.1 q.1 ∧ RelV p.2 q.2
def PPs (X : Cx) (pos : Pos) (keys : List (Option Expr)) (values : List Expr) (trs : List (TE × TE)) : Prop :=
  ∀ (pins : List (Addr × Obj)) (s : Shared) (σ : St) (H : Hp) (Q : List (V × V) → Hp → Prop), Inv X pins σ H s → tPairs trs σ H Q →
    wpAny (model X.prog X.w) X.A (evalPairs (pairTrees keys values X.env pos)) (fun vs s' => ∃ ps H', Inv X pins σ H' s' ∧ VV ps vs ∧ Q ps H') X.xe s
theorem pps_nil {X : Cx} {pos : Pos} : PPs X pos [] [] [] := fun pins s σ H Q I h => pairTrees_nil_walk ⟨[], H, I, .nil, h⟩
theorem pps_cons {X : Cx} {pos : Pos} {k v : Expr} {ks : List (Option Expr)} {vs : List Expr} {tk tv : TE} {trs : List (TE × TE)} (hk : PE X k tk) (hv : PE X v tv) (hr : PPs X pos ks vs trs) :
    PPs X pos (some k :: ks) (v :: vs) ((tk, tv) :: trs) := fun pins s σ H Q I h =>
  pairTrees_cons_walk (thn (hk pins s σ H _ I h) fun u s1 ⟨x, H1, I1, rx, q1⟩ => thn (hv pins s1 σ H1 _ I1 q1) fun w2 s2 ⟨y, H2, I2, ry, q2⟩ =>
    thn (hr pins s2 σ H2 _ I2 q2) fun ws s3 ⟨ps, H3, I3, rel, q3⟩ => ⟨(x, y) :: ps, H3, I3, .cons ⟨rx, ry⟩ rel, q3⟩)

def mergeK (kvs more : List (Key × V)) : List (Key × V) := more.foldl (fun acc kv => putK acc kv.1 kv.2) kvs
theorem KV.merge : ∀ {more : List (Key × V)} {rs : List (Key × Value)} {kvs : List (Key × V)} {vs : List (Key × Value)}, KV more rs → KV kvs vs → KV (mergeK kvs more) (merged vs rs) := by
  intro more rs kvs vs r
  unfold KV at r
  induction r generalizing kvs vs with
  | nil => intro q; exact q
  | @cons p q ps qs h t ih =>
    intro r0
    have e : KV (putK kvs p.1 p.2) (stored vs q.1 q.2) := by
      have := r0.put p.1 h.2
      rw [← h.1]; exact this
    exact ih e
theorem length_mergeK : ∀ (more kvs : List (Key × V)), (mergeK kvs more).length ≤ kvs.length + more.length
  | [], kvs => by show kvs.length ≤ kvs.length + 0; omega
  | p :: r, kvs => by
    have h1 := length_mergeK r (putK kvs p.1 p.2)
    have h2 := length_putK kvs p.1 p.2
    show (mergeK (putK kvs p.1 p.2) r).length ≤ _
    rw [List.length_cons]; omega
theorem carries_of {P : Program} {w : World} : ∀ {kvs : List (Key × V)} {ws : List (Value × Value)}, VV (kvs.map fun kv => (kV kv.1, kv.2)) ws → ∃ rs, Carries (mixKind P w) ws rs ∧ KV kvs rs
  | [], _, r => by rw [List.map_nil] at r; cases r; exact ⟨[], True.intro, .nil⟩
  | p :: kvs, _, r => by
    rw [List.map_cons] at r
    cases r with
    | @cons a b as bs h t =>
      obtain ⟨rs, c, q⟩ := carries_of (P := P) (w := w) t
      obtain ⟨b1, b2⟩ := b
      exact ⟨(p.1, b2) :: rs, ⟨kV_is h.1, rfl, c⟩, .cons ⟨rfl, h.2⟩ q⟩
/-- {k: v, ..} with keys ints and texts; the new dict stands empty while the pairs are made -/
def tDisp (trs : List (TE × TE)) : TE := fun σ H Q => ∀ p, H p = none → tPairs trs σ (upd H p (.dK [])) fun ps H2 => H2 p = some (.dK []) ∧ ∃ kvs : List (Key × V), ps = kvs.map (fun kv => (kV kv.1, kv.2)) ∧ kvs.length ≤ 15 ∧ Q (.ref p) (upd H2 p (.dK (mergeK [] kvs)))
theorem pe_disp {X : Cx} {pos : Pos} {keys : List (Option Expr)} {values : List Expr} {trs : List (TE × TE)} (h : PPs X pos keys values trs) (hall : keys.all (·.isSome) = true) (hl : keys.length = values.length) (h0 : keys ≠ [])
    (h15 : keys.length ≤ 15) : PE X (.Dict keys values pos) (tDisp trs) := by
  intro pins s σ H Q I q
  have hn := I.hok.fresh (Nat.le_refl s.heap.objs.size)
  have I1 := I.laid (a := s.heap.objs.size) (o := .dK []) (h' := s.heap.push { cls := .type "dict", data := .dict #[] }) (t' := s.toks) (fun _ _ q => Heap.get?_push_of_some _ q) (Nat.le_refl _) (dk_empty s.heap I.big)
  refine wpAny_Dict_walk (knd := mixKind X.prog X.w) hall hl h0 h15 (thn (h pins _ σ _ _ I1 (q _ hn)) fun ws s2 ⟨ps, H2, I2, rel, e, kvs, ep, lk, q2⟩ => ?_)
  subst ep
  obtain ⟨rs, c, rk⟩ := carries_of (P := X.prog) (w := X.w) rel
  obtain ⟨z, hd, vs0, r0, dd⟩ := dk_of I2.hok e
  cases r0
  refine ⟨rs, c, dd, fun h' dd' hs => ⟨.ref s.heap.objs.size, _, ?_, rfl, q2⟩⟩
  have hz : (mergeK [] kvs).length ≤ sizeLine := by
    have h1 := length_mergeK kvs []
    rw [List.length_nil] at h1
    rw [sizeLine_eq]; omega
  have he : ∃ q, h'.get? s.heap.objs.size = some q := let ⟨q, _, _, hq, _⟩ := dd'; ⟨q, hq⟩
  exact d_write I2 (by rw [e]; exact True.intro) hs he (dk_new hz hd (rk.merge .nil) dd')


/-! ### methods -/
/-- a method call o.m(e) of a built-in, with one argument: what must be seen of the text -/
structure M1 (X : Cx) (o : Expr) (m : Str) (apos : Pos) (e : Expr) (cpos : Pos) : Prop where
  base : attributeBase o m X.env (eval o X.env) = eval o X.env
  few : ((backTo cpos (starEach [e] X.env)).all (fun x => !x.1) && (backToKw cpos (keywordEach [] X.env)).all (fun x => x.1.isSome)
    && decide (([e] : List Expr).length + ([] : List Keyword).length + (if ([] : List Keyword).isEmpty then 0 else 1) < 30)) = true
  line : (apos.endLine == cpos.line) = true
  trees : backTo cpos (starEach [e] X.env) = [(false, eval e X.env)]
structure M2 (X : Cx) (o : Expr) (m : Str) (apos : Pos) (e f : Expr) (cpos : Pos) : Prop where
  base : attributeBase o m X.env (eval o X.env) = eval o X.env
  few : ((backTo cpos (starEach [e, f] X.env)).all (fun x => !x.1) && (backToKw cpos (keywordEach [] X.env)).all (fun x => x.1.isSome)
    && decide (([e, f] : List Expr).length + ([] : List Keyword).length + (if ([] : List Keyword).isEmpty then 0 else 1) < 30)) = true
  line : (apos.endLine == cpos.line) = true
  trees : backTo cpos (starEach [e, f] X.env) = [(false, eval e X.env), (false, eval f X.env)]

/-- a is a dict, whatever its keys -/
def IsD (H : Hp) (a : Addr) : Prop := (∃ kvs, Rd H a (.dK kvs)) ∨ ∃ kvs, Rd H a (.dT kvs)
theorem isD_at {X : Cx} {pins : List (Addr × Obj)} {σ : St} {H : Hp} {s : Shared} {a : Addr} (I : Inv X pins σ H s) (d : IsD H a) :
    s.TypeIs (.ref a) "dict" ∧ (∀ b, Value.ref a = .ref b → ∃ ob, s.heap.get? b = some ob ∧ ob.dict = none) ∧ (a == sysModules) = false := by
  rcases d with ⟨kvs, e⟩ | ⟨kvs, e⟩
  · obtain ⟨_, hd, vs, _, dd⟩ := dk_rd I.hok e
    refine ⟨dd.typeIs, fun b q => ?_, hd⟩
    cases q
    obtain ⟨ob, _, _, h1, h2, _⟩ := dd
    exact ⟨ob, h1, h2.2.1⟩
  · obtain ⟨_, hd, xs, _, dd⟩ := dt_rd I.hok e
    refine ⟨dd.typeIs, fun b q => ?_, hd⟩
    cases q
    obtain ⟨ob, _, _, h1, h2, _⟩ := dd
    exact ⟨ob, h1, h2.2.1⟩

section
variable {X : Cx} {pins : List (Addr × Obj)} {σ : St} {H : Hp} {s : Shared} {a : Addr} {y d : V} {u r : Value} {o : Option V} {A : Around} {E : Value → Shared → Prop}
/-- d.get(y) -/
theorem d_get1 {Q : Value → Shared → Prop} (hu : A.units + 1 < cLine) (I : Inv X pins σ H s) (g : DGet H a y o) (ry : RelV y u) (h : ∀ w' s', Inv X pins σ H s' → RelV (o.getD .non) w' → Q w' s') :
    wpAny (model X.prog X.w) A (call (.builtin "dict.get") [.ref a, u]) Q E s := by
  rcases g with ⟨kvs, k, e, ey, l⟩ | ⟨kvs, k, b, e, ey, eb, l⟩
  · subst ey
    obtain ⟨z, hd, vs, rel, dd⟩ := dk_rd I.hok e
    refine call_meetsIn PySem.F.slot_dict_get dd.typeIs PySem.F.entry_dict_get (PySem.F.args_dict_get_2 _ _) (meets_dict_get (mixKind X.prog X.w) a (kV_is ry) hd) ⟨_, dd.mapOf, h _ _ (I.tok _) ?_⟩
    rw [l]
    exact (rel.val k).getD rfl
  · subst ey
    cases (show u = Value.ref b from ry)
    obtain ⟨z, hd, xs, rel, dd⟩ := dt_rd I.hok e
    refine call_meetsIn PySem.F.slot_dict_get dd.typeIs PySem.F.entry_dict_get (PySem.F.args_dict_get_2 _ _) (meetsH_dict_get (tupleKind (mixKind X.prog X.w)) a b hd) ⟨tupleKind_room_in1 hu, k, xs, key_of I.hok eb, dd, h _ _ (I.tok _) ?_⟩
    rw [l]
    exact (rel.val k).getD rfl
/-- d.get(y, x) -/
theorem d_get2 {Q : Value → Shared → Prop} (hu : A.units + 1 < cLine) (I : Inv X pins σ H s) (g : DGet H a y o) (ry : RelV y u) (rd : RelV d r) (h : ∀ w' s', Inv X pins σ H s' → RelV (o.getD d) w' → Q w' s') :
    wpAny (model X.prog X.w) A (call (.builtin "dict.get") [.ref a, u, r]) Q E s := by
  rcases g with ⟨kvs, k, e, ey, l⟩ | ⟨kvs, k, b, e, ey, eb, l⟩
  · subst ey
    obtain ⟨z, hd, vs, rel, dd⟩ := dk_rd I.hok e
    refine call_meetsIn PySem.F.slot_dict_get dd.typeIs PySem.F.entry_dict_get (PySem.F.args_dict_get_3 _ _ _) (meets_dict_get_default (mixKind X.prog X.w) a (kV_is ry) hd r) ⟨_, dd.mapOf, h _ _ (I.tok _) ?_⟩
    rw [l]
    exact (rel.val k).getD rd
  · subst ey
    cases (show u = Value.ref b from ry)
    obtain ⟨z, hd, xs, rel, dd⟩ := dt_rd I.hok e
    refine call_meetsIn PySem.F.slot_dict_get dd.typeIs PySem.F.entry_dict_get (PySem.F.args_dict_get_3 _ _ _) (meetsH_dict_get_default (tupleKind (mixKind X.prog X.w)) a b hd r) ⟨tupleKind_room_in1 hu, k, xs, key_of I.hok eb, dd, h _ _ (I.tok _) ?_⟩
    rw [l]
    exact (rel.val k).getD rd
end

def tDGet1 (td ty : TE) : TE := fun σ H Q => td σ H fun x H1 => ∃ a, x = .ref a ∧ IsD H1 a ∧ ty σ H1 fun y H2 => ∃ o, DGet H2 a y o ∧ Q (o.getD .non) H2
def tDGet2 (td ty tx : TE) : TE := fun σ H Q => td σ H fun x H1 => ∃ a, x = .ref a ∧ IsD H1 a ∧ ty σ H1 fun y H2 => tx σ H2 fun z H3 => ∃ o, DGet H3 a y o ∧ Q (o.getD z) H3
/-- d.pop(k): there; d.pop(k, x): there or not -/
def tDPop1 (td ty : TE) : TE := fun σ H Q => td σ H fun x H1 => ∃ a, x = .ref a ∧ IsD H1 a ∧ ty σ H1 fun y H2 => ∃ kvs k v, H2 a = some (.dK kvs) ∧ y = kV k ∧ valV kvs k = some v ∧ Q v (upd H2 a (.dK (dropK kvs k)))
def tDPop2 (td ty tx : TE) : TE := fun σ H Q => td σ H fun x H1 => ∃ a, x = .ref a ∧ IsD H1 a ∧ ty σ H1 fun y H2 => tx σ H2 fun z H3 => ∃ kvs k, H3 a = some (.dK kvs) ∧ y = kV k ∧
  (∀ v, valV kvs k = some v → Q v (upd H3 a (.dK (dropK kvs k)))) ∧ (valV kvs k = none → Q z H3)
section
variable {X : Cx} {o e f : Expr} {apos cpos : Pos} {td ty tx : TE}
theorem pe_dget1 (hu : X.A.units + 1 < cLine) (ho : PE X o td) (he : PE X e ty) (m : M1 X o "get" apos e cpos) : PE X (.Call (.Attribute o "get" apos) [e] [] cpos) (tDGet1 td ty) := by
  intro pins s σ H Q I h
  refine wpAny_Call_method m.base m.few m.line PySem.F.plainAttrs_dict PySem.F.slot_dict_get PySem.F.type_dict_get (thn (ho pins s σ H _ I h) fun u s1 ⟨x, H1, I1, rx, a, ex, d, q1⟩ => ?_)
  subst ex
  obtain rfl : u = Value.ref a := rx
  obtain ⟨t1, t2, _⟩ := isD_at I1 d
  refine ⟨t1, t2, ?_⟩
  rw [m.trees]
  refine Calls.callWith_builtin rfl (Calls.evalArgs_plain (Calls.spliced_cons (thn (he pins s1 σ H1 _ I1 q1) fun iv s2 ⟨y, H2, I2, ry, ov, g, q2⟩ => Calls.spliced_nil ?_)))
  exact d_get1 hu I2 g ry fun w' s3 I3 rw' => ⟨_, H2, I3, rw', q2⟩
theorem pe_dget2 (hu : X.A.units + 1 < cLine) (ho : PE X o td) (he : PE X e ty) (hf : PE X f tx) (m : M2 X o "get" apos e f cpos) : PE X (.Call (.Attribute o "get" apos) [e, f] [] cpos) (tDGet2 td ty tx) := by
  intro pins s σ H Q I h
  refine wpAny_Call_method m.base m.few m.line PySem.F.plainAttrs_dict PySem.F.slot_dict_get PySem.F.type_dict_get (thn (ho pins s σ H _ I h) fun u s1 ⟨x, H1, I1, rx, a, ex, d, q1⟩ => ?_)
  subst ex
  obtain rfl : u = Value.ref a := rx
  obtain ⟨t1, t2, _⟩ := isD_at I1 d
  refine ⟨t1, t2, ?_⟩
  rw [m.trees]
  refine Calls.callWith_builtin rfl (Calls.evalArgs_plain (Calls.spliced_cons (thn (he pins s1 σ H1 _ I1 q1) fun iv s2 ⟨y, H2, I2, ry, q2⟩ =>
    Calls.spliced_cons (thn (hf pins s2 σ H2 _ I2 q2) fun fv s3 ⟨z, H3, I3, rz, ov, g, q3⟩ => Calls.spliced_nil ?_))))
  exact d_get2 hu I3 g ry rz fun w' s4 I4 rw' => ⟨_, H3, I4, rw', q3⟩
theorem pe_dpop1 (ho : PE X o td) (he : PE X e ty) (m : M1 X o "pop" apos e cpos) : PE X (.Call (.Attribute o "pop" apos) [e] [] cpos) (tDPop1 td ty) := by
  intro pins s σ H Q I h
  refine wpAny_Call_method m.base m.few m.line PySem.F.plainAttrs_dict PySem.F.slot_dict_pop PySem.F.type_dict_pop (thn (ho pins s σ H _ I h) fun u s1 ⟨x, H1, I1, rx, a, ex, d, q1⟩ => ?_)
  subst ex
  obtain rfl : u = Value.ref a := rx
  obtain ⟨t1, t2, _⟩ := isD_at I1 d
  refine ⟨t1, t2, ?_⟩
  rw [m.trees]
  refine Calls.callWith_builtin rfl (Calls.evalArgs_plain (Calls.spliced_cons (thn (he pins s1 σ H1 _ I1 q1) fun iv s2 ⟨y, H2, I2, ry, kvs, k, v, ea, ey, l, q2⟩ => Calls.spliced_nil ?_)))
  subst ey
  exact d_pop I2 ea ry l (.inl rfl) fun w' s3 I3 rw' => ⟨v, _, I3, rw', q2⟩
theorem pe_dpop2 (ho : PE X o td) (he : PE X e ty) (hf : PE X f tx) (m : M2 X o "pop" apos e f cpos) : PE X (.Call (.Attribute o "pop" apos) [e, f] [] cpos) (tDPop2 td ty tx) := by
  intro pins s σ H Q I h
  refine wpAny_Call_method m.base m.few m.line PySem.F.plainAttrs_dict PySem.F.slot_dict_pop PySem.F.type_dict_pop (thn (ho pins s σ H _ I h) fun u s1 ⟨x, H1, I1, rx, a, ex, d, q1⟩ => ?_)
  subst ex
  obtain rfl : u = Value.ref a := rx
  obtain ⟨t1, t2, _⟩ := isD_at I1 d
  refine ⟨t1, t2, ?_⟩
  rw [m.trees]
  refine Calls.callWith_builtin rfl (Calls.evalArgs_plain (Calls.spliced_cons (thn (he pins s1 σ H1 _ I1 q1) fun iv s2 ⟨y, H2, I2, ry, q2⟩ =>
    Calls.spliced_cons (thn (hf pins s2 σ H2 _ I2 q2) fun fv s3 ⟨z, H3, I3, rz, kvs, k, ea, ey, q3, q4⟩ => Calls.spliced_nil ?_))))
  subst ey
  cases l : valV kvs k with
  | some v => exact d_pop I3 ea ry l (.inr ⟨fv, rfl⟩) fun w' s4 I4 rw' => ⟨v, _, I4, rw', q3 v l⟩
  | none => exact d_popD I3 ea ry l fun s4 I4 => ⟨z, H3, I4, rz, q4 l⟩
end

/-! ### dict(d): a copy -/
section
variable {X : Cx} {pins : List (Addr × Obj)} {σ : St} {H : Hp} {s : Shared} {a : Addr} {kvs : List (Key × V)} {A : Around} {E : Value → Shared → Prop}
theorem d_copyOf {Q : Value → Shared → Prop} (I : Inv X pins σ H s) (e : Rd H a (.dK kvs)) (h : ∀ p s', H p = none → Inv X pins σ (upd H p (.dK kvs)) s' → Q (.ref p) s') : wpAny (model X.prog X.w) A (call (.type "dict") [.ref a]) Q E s := by
  obtain ⟨z, hd, vs, rel, dd⟩ := dk_rd I.hok e
  refine kt_call_dict hd dd (by rw [← rel.length]; exact z) fun h' dd' hs => ?_
  refine h _ _ (I.hok.fresh (Nat.le_refl _)) (I.laid (a := s.heap.objs.size) (o := .dK kvs) (t' := s.toks) (fun b q hq => ?_) (Nat.le_refl _) (dk_new z (beq_eq_false_iff_ne.mpr (Ne.symm (Nat.ne_of_lt I.big))) rel dd'))
  exact (hs.2 b (Nat.ne_of_lt (Heap.lt_size hq))).trans (Heap.get?_push_of_some _ hq)
end


section
variable {X : Cx} {pins : List (Addr × Obj)} {σ : St} {H : Hp} {s : Shared} {a : Addr} {y : V} {u : Value} {A : Around} {E : Value → Shared → Prop}
/-- d[y], not there: a KeyError -/
theorem d_missing {Q : Value → Shared → Prop} (hu : A.units + 1 < cLine) (hh : A.handled = none) (I : Inv X pins σ H s) (g : DGet H a y none) (ry : RelV y u)
    (h : ∀ h' e t', Heap.NewExc s.heap h' e "KeyError" → E (.ref e) { s with heap := h', toks := t' }) : wpAny (model X.prog X.w) A (getItem (.ref a) u) Q E s := by
  rcases g with ⟨kvs, k, e, ey, l⟩ | ⟨kvs, k, b, e, ey, eb, l⟩
  · subst ey
    obtain ⟨z, hd, vs, rel, dd⟩ := dk_rd I.hok e
    have hn : valueAt vs k = none := RelO.none_of (by rw [l]; exact rel.val k)
    exact wpAny_getItem_missing_of (kV_is ry) hd hh dd.mapOf hn fun h' ex ne => h h' ex _ ne
  · subst ey
    cases (show u = Value.ref b from ry)
    obtain ⟨z, hd, xs, rel, dd⟩ := dt_rd I.hok e
    have hn : (atKey xs k).map (·.2) = none := RelO.none_of (by rw [l]; exact rel.val k)
    exact wpAny_getItem_missing_heap (tupleKind_room_in1 hu) (key_of I.hok eb) hd hh dd (Option.map_eq_none_iff.mp hn) fun h' ex ne => h h' ex _ ne
end
end L2

namespace Att
open PySem PySem.W PySem.Calls PyProof.Rows

/-! ### the script -/
theorem ints_of_wellAll {P : Params} {h : Heap} : ∀ (ns : List Int) (vs : List Value), WellAll P h vs (ns.map WData.int) → IntsAre vs ns := by
  intro ns
  induction ns with
  | nil =>
    intro vs w
    rw [List.map_nil] at w
    cases w
    exact .nil
  | cons n ns ih =>
    intro vs w
    rw [List.map_cons] at w
    cases w with
    | cons a b =>
      cases a
      exact .cons _ _ (ih _ b)

theorem script_of {l : OpenLaw} {n : Nat} (hn : l.most = some n) {P : Params} {h : Heap} {args : List WData} {vals : List Value}
    (hpre : l.row.toRowW.claim.pre args = true) (hwl : WellAll P h vals args) :
    ∃ a vs ns, vals = [Value.ref a] ∧ args = [WData.list (ns.map WData.int)] ∧ h.get? a = some { cls := .type "list", data := .seq vs.toArray } ∧ IntsAre vs ns ∧ ns.length ≤ n := by
  have hsh : WShape.hasAll [] args [.list .int] = true := (pre_splitW hpre).1
  have hc : l.pre.holds [] { args := args } = true := (pre_splitW hpre).2
  obtain ⟨d, r, rfl, h1, h2⟩ := hasAllW_cons hsh
  obtain rfl := hasAllW_nil h2
  obtain ⟨xs, rfl, h3⟩ := hasW_list h1
  obtain ⟨ns, rfl⟩ := items_int h3
  have hlen : ns.length ≤ n := by
    unfold OpenLaw.pre at hc
    have h4 : (WTm.not (.lt (.lit (.int (n : Int))) (.len (.arg 0)))).holds [] { args := [.list (ns.map .int)] } = true := by
      have h4 := (holds_andW hc).1
      rw [hn] at h4
      exact h4
    have h5 := condW_of h4 (w_not (w_lt w_lit (w_len_list (w_arg rfl))))
    rw [List.length_map] at h5
    refine Nat.le_of_not_lt fun q => ?_
    have q' : (n : Int) < ((ns.length : Nat) : Int) := by omega
    first
      | (rw [decide_eq_true q'] at h5; exact absurd h5 (by decide))
      | (simp at h5; omega)
  cases hwl with
  | cons w1 w2 =>
    cases w2
    cases w1 with
    | list ho hall => exact ⟨_, _, ns, rfl, rfl, ho, ints_of_wellAll ns _ hall, hlen⟩

theorem post_true (l : OpenLaw) (args : List WData) : l.row.toRowW.claim.post args (.bool true) args = true :=
  postW_of (r := l.row.toRowW) (X := (true == true))
    (show WShape.has [] (.bool true) .bool = true by first | rfl | decide | simp [WShape.has, WShape.arms, WShape.armsAll])
    (show (WTm.eq .res (.lit (.bool true))).value [] { args := args, res := some (.bool true), after := args } = some (.bool (true == true)) from w_eq_bool (w_res rfl) w_lit) rfl

/-! ### the attachment: holds_open's last premise (the goal 'hc' behind k_head) from a wpAny of the law's body -/
theorem attach {l : OpenLaw} {n : Nat} {q : Program} {loose : List Str} {XP : (Str → Option Value) → Heap → Prop} {YP : World → Heap → Prop} {d : DefRec} {x : Str}
    (hn : l.most = some n) (hdf : d.params.defaults = [])
    (hbind : ∀ pm cd doc v : Value, bindArgs (docDef d.name d.params d.body d.scope pm cd doc) ⟨[v], []⟩ = pure [(x, v)])
    (hx : d.scope.names.lookup x = some .local ∨ d.scope.names.lookup x = some .cell)
    (hk : d.scope.kind = .function) (hco : d.scope.isCoroutine = false) (hgen : d.scope.isGenerator = false)
    (body : ∀ (w : World) (s₀ s₁ s : Shared) (mg mb : Str → Option Value) (fa : Addr) (o : Obj) (pm cd doc : Value) (a : Addr) (vs : List Value) (ns : List Int),
      Ground q loose [] XP w s₀ mg mb s₁.heap → YP w s₁.heap →
      s₁.heap.get? fa = some o → o.data = .func (docDef d.name d.params d.body d.scope pm cd doc) → s₁.heap.CodeRec cd d.name → mg d.name = some (.ref fa) →
      s₁.heap.get? a = some { cls := .type "list", data := .seq vs.toArray } → IntsAre vs ns → ns.length ≤ n →
      s.gens = #[] → s.os = s₁.os →
      Fr s₁.heap s₁.heap.objs.size s.heap (bindL (envOfC d.name d.scope s₁.heap.objs.size fa cd).kindOf [(x, .ref a)] fun _ => none) →
      Cl s₁.heap.objs.size (cellsFrom (s₁.heap.objs.size + 1) d.scope.names []) s.heap (bindC (envOfC d.name d.scope s₁.heap.objs.size fa cd).kindOf [(x, .ref a)] fun _ => none) →
      wpAny (model l.prog w) (callerA.deeper (envOfC d.name d.scope s₁.heap.objs.size fa cd)) (execs d.body (envOfC d.name d.scope s₁.heap.objs.size fa cd))
        (fun f s' => f = .ret (.bool true) ∧ OldK s₁.heap s'.heap ∧ s'.os = s₁.os ∧ AllBare s'.gens) (fun _ _ => False) s) :
    WalkO q loose XP YP l.row.toRowW d [] (fun f vs => PySem.call f vs) := by
  intro w s₀ s₁ mg mb G Y fa o pm cd doc dV kV ho hd hcd hD hmg hg args vals as hpre hlay hrd hwl hlo
  obtain rfl : dV = .none := Dflts.none hD hdf
  obtain rfl : kV = .none := Dflts.noKw hD
  obtain ⟨a, vs, ns, rfl, rfl, hobj, hints, hlen⟩ := script_of hn hpre hwl
  refine enter_call ?_
  refine call_cells_ret (o := o) (by rw [depth_caller]; decide) ho (fd_plain hd) G.T.nolimit hcd (hbind pm cd doc (.ref a)) (fun y hy => ?_) (fun h₁ tk F X => ?_) hco hgen hk
  · obtain rfl : y = (x, Value.ref a) := List.mem_singleton.mp hy
    rcases hx with e | e
    · exact .inl e
    · exact .inr ⟨e, cellsFrom_some _ _ _ (.inl e)⟩
  · refine wpAny_mono (body w s₀ s₁ { s₁ with heap := h₁, toks := tk } mg mb fa o pm cd doc a vs ns G Y ho (fd_plain hd) hcd hmg hobj hints hlen hg rfl F X) (fun f s' hq => ?_) (fun _ _ hq => hq)
    obtain ⟨rfl, h2, h3, h4⟩ := hq
    exact ⟨.inl ⟨.bool true, .bool true, [], rfl, fun _ => rfl, .bool true, post_true l _, fun _ => ⟨List.Pairwise.nil, fun _ hm => (nomatch hm)⟩⟩, h2, h3, h4⟩

/-- the same from a codeAny of the CALL (for a layer whose function contracts speak of calls) -/
theorem attach_call {l : OpenLaw} {n : Nat} {q : Program} {loose : List Str} {XP : (Str → Option Value) → Heap → Prop} {YP : World → Heap → Prop} {d : DefRec}
    (hn : l.most = some n) (hdf : d.params.defaults = [])
    (call : ∀ (w : World) (s₀ s₁ : Shared) (mg mb : Str → Option Value) (fa : Addr) (o : Obj) (pm cd doc : Value) (a : Addr) (vs : List Value) (ns : List Int),
      Ground q loose [] XP w s₀ mg mb s₁.heap → YP w s₁.heap →
      s₁.heap.get? fa = some o → o.data = .func (docDef d.name d.params d.body d.scope pm cd doc) → s₁.heap.CodeRec cd d.name → mg d.name = some (.ref fa) →
      s₁.heap.get? a = some { cls := .type "list", data := .seq vs.toArray } → IntsAre vs ns → ns.length ≤ n → s₁.gens = #[] →
      codeAny (model l.prog w) callerA (.call (.ref fa) ⟨[.ref a], []⟩) (fun r s' => r = .ok (.ret (.bool true)) ∧ OldK s₁.heap s'.heap ∧ s'.os = s₁.os ∧ AllBare s'.gens) s₁) :
    WalkO q loose XP YP l.row.toRowW d [] (fun f vs => PySem.call f vs) := by
  intro w s₀ s₁ mg mb G Y fa o pm cd doc dV kV ho hd hcd hD hmg hg args vals as hpre hlay hrd hwl hlo
  obtain rfl : dV = .none := Dflts.none hD hdf
  obtain rfl : kV = .none := Dflts.noKw hD
  obtain ⟨a, vs, ns, rfl, rfl, hobj, hints, hlen⟩ := script_of hn hpre hwl
  refine enter_call (codeAny_mono (call w s₀ s₁ mg mb fa o pm cd doc a vs ns G Y ho (fd_plain hd) hcd hmg hobj hints hlen hg) fun r s' hq => ?_)
  obtain ⟨rfl, h2, h3, h4⟩ := hq
  exact ⟨.inl ⟨.bool true, .bool true, [], rfl, fun _ => rfl, .bool true, post_true l _, fun _ => ⟨List.Pairwise.nil, fun _ hm => (nomatch hm)⟩⟩, h2, h3, h4⟩

/-- the same where the top left finished generators (o_head chose holds_openN): nothing may have changed at all and no generator may be left -/
theorem attachN {l : OpenLaw} {n : Nat} {q : Program} {loose : List Str} {XP : (Str → Option Value) → Heap → Prop} {YP : World → Heap → Prop} {d : DefRec} {x : Str}
    (hn : l.most = some n) (hdf : d.params.defaults = [])
    (hbind : ∀ pm cd doc v : Value, bindArgs (docDef d.name d.params d.body d.scope pm cd doc) ⟨[v], []⟩ = pure [(x, v)])
    (hx : d.scope.names.lookup x = some .local ∨ d.scope.names.lookup x = some .cell)
    (hk : d.scope.kind = .function) (hco : d.scope.isCoroutine = false) (hgen : d.scope.isGenerator = false)
    (body : ∀ (w : World) (s₀ s₁ s : Shared) (mg mb : Str → Option Value) (fa : Addr) (o : Obj) (pm cd doc : Value) (a : Addr) (vs : List Value) (ns : List Int),
      Ground q loose [] XP w s₀ mg mb s₁.heap → YP w s₁.heap →
      s₁.heap.get? fa = some o → o.data = .func (docDef d.name d.params d.body d.scope pm cd doc) → s₁.heap.CodeRec cd d.name → mg d.name = some (.ref fa) →
      s₁.heap.get? a = some { cls := .type "list", data := .seq vs.toArray } → IntsAre vs ns → ns.length ≤ n →
      s.gens = #[] → s.os = s₁.os →
      Fr s₁.heap s₁.heap.objs.size s.heap (bindL (envOfC d.name d.scope s₁.heap.objs.size fa cd).kindOf [(x, .ref a)] fun _ => none) →
      Cl s₁.heap.objs.size (cellsFrom (s₁.heap.objs.size + 1) d.scope.names []) s.heap (bindC (envOfC d.name d.scope s₁.heap.objs.size fa cd).kindOf [(x, .ref a)] fun _ => none) →
      wpAny (model l.prog w) (callerA.deeper (envOfC d.name d.scope s₁.heap.objs.size fa cd)) (execs d.body (envOfC d.name d.scope s₁.heap.objs.size fa cd))
        (fun f s' => f = .ret (.bool true) ∧ (∀ b o, s₁.heap.get? b = some o → s'.heap.get? b = some o) ∧ s'.os = s₁.os ∧ s'.gens = #[]) (fun _ _ => False) s) :
    WalkN q loose XP YP l.row.toRowW d [] (fun f vs => PySem.call f vs) := by
  intro w s₀ s₁ mg mb G Y fa o pm cd doc dV kV ho hd hcd hD hmg hg args vals as hpre hlay hrd hwl hlo
  obtain rfl : dV = .none := Dflts.none hD hdf
  obtain rfl : kV = .none := Dflts.noKw hD
  obtain ⟨a, vs, ns, rfl, rfl, hobj, hints, hlen⟩ := script_of hn hpre hwl
  refine enter_callW ?_
  refine call_cells_ret (o := o) (by rw [depth_caller]; decide) ho (fd_plain hd) G.T.nolimit hcd (hbind pm cd doc (.ref a)) (fun y hy => ?_) (fun h₁ tk F X => ?_) hco hgen hk
  · obtain rfl : y = (x, Value.ref a) := List.mem_singleton.mp hy
    rcases hx with e | e
    · exact .inl e
    · exact .inr ⟨e, cellsFrom_some _ _ _ (.inl e)⟩
  · refine wpAny_mono (body w s₀ s₁ { s₁ with heap := h₁, toks := tk } mg mb fa o pm cd doc a vs ns G Y ho (fd_plain hd) hcd hmg hobj hints hlen hg rfl F X) (fun f s' hq => ?_) (fun _ _ hq => hq)
    obtain ⟨rfl, h2, h3, h4⟩ := hq
    exact ⟨.inl ⟨.bool true, .bool true, [], rfl, fun _ => rfl, .bool true, post_true l _, fun _ => ⟨List.Pairwise.nil, fun _ hm => (nomatch hm)⟩⟩, h2, h3, h4⟩

/-! ### rules over ANY heap (no ledger) from facts about the written part K: the library's own take a ledger (News) for what they write -/
section
variable {prog : Program} {w : World} {A : Around} {E : Value → Shared → Prop} {s : Shared} {K : Frag}

/-- a def of the module, or a method (qual 'C.m'), entered: the frame is the next address; cells behind it -/
theorem call_fn {R : Result → Shared → Prop} {name qual : Str} {params : Arguments} {body : List Stmt} {scope : Scope} {dV kV doc pm cdv ct oc : Value} {an od : Option Addr} {osl : Array (Option Value)} {f : Addr} {args : Args} {binds : List (Str × Value)}
    (X : K.In s.heap) (hlim : s.heap.NoLimit) (ho : K.lookup f = some ⟨oc, od, .func (fnOf name qual params body scope dV kV doc pm an cdv ct), osl⟩) (hcd : codeIn K cdv qual = true) (hroom : A.depth < recursionLimit)
    (hbind : BindsTo s (fnOf name qual params body scope dV kV doc pm an cdv ct) args binds)
    (hkind : (binds.all fun y => scope.names.lookup y.1 == some .local || scope.names.lookup y.1 == some .cell) = true)
    (h : ∀ s₁, InCallC s s.heap.objs.size (bindL (envOfC qual scope s.heap.objs.size f cdv).kindOf binds fun _ => none) (cellsFrom (s.heap.objs.size + 1) scope.names [])
        (bindC (envOfC qual scope s.heap.objs.size f cdv).kindOf binds fun _ => none) s₁ →
      wpAny (model prog w) (A.deeper (envOfC qual scope s.heap.objs.size f cdv)) (execs body (envOfC qual scope s.heap.objs.size f cdv))
        (fun fl s' => R (.ok (.ret (match fl with | .ret v => v | _ => .none))) s')
        (fun e s' => wpAny (model prog w) (A.deeper (envOfC qual scope s.heap.objs.size f cdv)) (leaving (envOfC qual scope s.heap.objs.size f cdv) e) (fun _ s'' => R (.error e) s'') (fun e' s'' => R (.error e') s'') s') s₁)
    (hco : scope.isCoroutine = false) (hgen : scope.isGenerator = false) (hk : scope.kind = .function) : codeAny (model prog w) A (.call (.ref f) args) R s := by
  refine codeAny_call_function hroom (X _ _ ho) rfl hco hgen rfl (codeRec_of X hcd) (hbind _ _ _ _ ?_)
  refine wpAny_newFunctionEnv_cells hk (kindsX hkind _) fun env he s₁ x => ?_
  subst he
  exact ⟨hlim.keeps x.toInCall.keep, codeAny_func (h s₁ x)⟩

/-- C(..): dict at size, instance at size + 1, then __init__ -/
theorem make_obj {R : Result → Shared → Prop} {C fI : Addr} {rest : List Value} {kw : List (Str × Value)}
    (X : K.In s.heap) (hm : makesIn K C = true) (hi : findIn K (.ref C) "__init__" = some (some (.ref fI))) (hf : isFn K (.ref fI) = true)
    (h : codeAny (model prog w) (A.under (.builtin "type.__call__" ⟨.ref C :: rest, kw⟩)) (.call (.ref fI) ⟨.ref (s.heap.objs.size + 1) :: rest, kw⟩) (InitBack (s.heap.objs.size + 1) R)
      { s with heap := (s.heap.push emptyDict).push (instObj C s.heap.objs.size) }) : codeAny (model prog w) A (.call (.ref C) ⟨rest, kw⟩) R s := by
  obtain ⟨hh, g, d, t, os⟩ := s
  exact make_core (makes_of X hm) (looks_findIn X hi) (fun self => bind_fn X self (beq_iff_eq.mp hf)) (.inl rfl) h

/-- x.name where the instance's dict holds the name and the class does not -/
theorem get_field {x C : Addr} {ox : Obj} {es : List DictEntry} {n : Nat} {name : Str} {expr : Bool} {v : Value} {Q : Value → Shared → Prop}
    (X : K.In s.heap) (I : PySem.W.InstAt s.heap x ox C (some (dictOf es n))) (hg : plainGet K C name = true) (hh : hasDictIn K C = true) (ha : findIn K (.ref C) name = some none)
    (hl : getL name es = some (some v)) (hv : handedIn v = true) (h : Q v { s with toks := s.toks + 1 }) : wpAny (model prog w) A (getAttr (.ref x) name expr) Q E s :=
  get_value X I (plainGet_of hg).1 (findObj_own hh ha rfl hl) hv h

/-- x.m(..): the method found in the class -/
theorem get_method {x C f : Addr} {ox : Obj} {es : List DictEntry} {n : Nat} {name : Str} {pl : Sem Bool} {Q : Value × List Value → Shared → Prop}
    (X : K.In s.heap) (I : PySem.W.InstAt s.heap x ox C (some (dictOf es n))) (hg : plainGet K C name = true) (hf : findIn K (.ref C) name = some (some (.ref f))) (ht : isFn K (.ref f) = true)
    (hl : getL name es = some none) (h : Q (.ref f, [.ref x]) s) : wpAny (model prog w) A (getMethod (.ref x) name pl) Q E s :=
  method_fn X I (plainGet_of hg).1 (plainGet_of hg).2 hf (beq_iff_eq.mp ht) (by show (lookIn name (dictOf es n)).map _ = _; rw [lookIn_dict, hl]; rfl) h

/-! the whole heap as the ledger: makes every rule that writes through a ledger a rule over any heap -/
def noObjs (h : Heap) : Heap := { h with objs := #[] }
theorem noObjs_get (h : Heap) (b : Addr) : (noObjs h).get? b = none := by
  cases e : (noObjs h).get? b with
  | none => rfl
  | some o => exact absurd (Heap.lt_size e) (Nat.not_lt_zero _)
def ledger (h : Heap) (L d : Addr) : List (Addr × Obj) := (List.range h.objs.size).filterMap fun a => if a = L ∨ a = d then none else (h.get? a).map fun o => (a, o)
theorem mem_ledger {h : Heap} {L d a : Addr} {o : Obj} : (a, o) ∈ ledger h L d ↔ a ≠ L ∧ a ≠ d ∧ h.get? a = some o := by
  unfold ledger
  rw [List.mem_filterMap]
  constructor
  · rintro ⟨b, _, e⟩
    split at e
    · cases e
    · rename_i hb
      obtain ⟨o', ho, e'⟩ := Option.map_eq_some_iff.mp e
      cases e'
      exact ⟨fun q => hb (.inl q), fun q => hb (.inr q), ho⟩
  · rintro ⟨n1, n2, ho⟩
    refine ⟨a, List.mem_range.mpr (Heap.lt_size ho), ?_⟩
    rw [if_neg (show ¬ (a = L ∨ a = d) from fun q => q.elim n1 n2), ho] <;> rfl
theorem news_ledger {h : Heap} {L d : Addr} {od : Obj} (hne : d ≠ L) (ho : h.get? d = some od) : News (noObjs h) L h ([] ++ (d, od) :: ledger h L d) := by
  rintro ⟨a, o⟩ hp
  rcases List.mem_cons.mp hp with e | hp
  · cases e
    exact ⟨ho, hne, noObjs_get _ _⟩
  · obtain ⟨n1, n2, e⟩ := mem_ledger.mp hp
    exact ⟨e, n1, noObjs_get _ _⟩
theorem fr_all {h : Heap} {L : Addr} {m : Str → Option Value} (n : h.Ns L m) : Fr (noObjs h) L h m :=
  ⟨n, fun b o e => (by rw [noObjs_get] at e; cases e), Nat.zero_le _⟩
/-- Upd of the head entry (for append_K, setItem_K ..) -/
theorem upd_ledger {h : Heap} {L d : Addr} {o o' : Obj} : Upd d o o' ((d, o) :: ledger h L d) ((d, o') :: ledger h L d) :=
  .head fun ⟨_, _⟩ hp => (mem_ledger.mp hp).2.1

/-- x.name = v over any heap: L is any namespace of the heap (the frame's, say): its map stays, its object is not told; all else but the dict stays -/
theorem set_field {x C dx L : Addr} {ox : Obj} {m : Str → Option Value} {es es' : List DictEntry} {n n' : Nat} {name : Str} {v : Value} {Q : Unit → Shared → Prop}
    (X : K.In s.heap) (I : PySem.W.InstAt s.heap x ox C (some (dictOf es n))) (hd : ox.dict = some dx) (hL : s.heap.Ns L m) (hne : dx ≠ L)
    (hs : findIn K (.ref C) "__setattr__" = some (some (.builtin "object.__setattr__"))) (hp : plainOver K C = true) (ht : takerIn K C name = some none) (hh : hasDictIn K C = true) (hl : (getL name es).isSome = true)
    (e : (putL name (PyData.keyHash w.params name) (.str name (s.toks + 1)) v es, putN name es n) = (es', n')) (hz : es'.length ≤ 1000)
    (h : ∀ h' : Heap, h'.Ns L m → h'.get? dx = some (dictOf es' n') → (∀ b o, b ≠ dx → b ≠ L → s.heap.get? b = some o → h'.get? b = some o) → Q () { s with heap := h', toks := s.toks + 2 }) :
    wpAny (model prog w) A (setAttr (.ref x) name v) Q E s := by
  obtain ⟨e1, e2⟩ := Prod.mk.inj e
  have hdx : s.heap.get? dx = some (dictOf es n) := by
    have := I.dict
    rw [hd] at this
    exact this
  refine set_plain X I hs (osa_dict (s := { s with toks := s.toks + 1 }) (h₀ := noObjs s.heap) (L := L) (m := m) (od := dictOf es n) (od' := dictOf es' n') (es := es') (n := n') (pre := []) (post := ledger s.heap L dx)
    (fr_all hL) (news_ledger hne hdx) X I hd hp ht hh hl (fun _ q => nomatch q) (fun ⟨_, _⟩ q => (mem_ledger.mp q).2.1) (by rw [putName_dict, e1, e2]) rfl hz fun h' F' N' => ?_)
  exact h h' F'.ns (N'.get (List.Mem.head _)) fun b o n1 n2 ho => N'.get (List.Mem.tail _ (mem_ledger.mpr ⟨n2, n1, ho⟩))
end
end Att

namespace L2
open PySem PySem.Spec PyProof.Rows

theorem vals_ints : ∀ {vs : List Value} {ns : List Int}, IntsAre vs ns → Vals (ns.map V.int) vs
  | _, _, .nil => .nil
  | _, _, .cons n t h => .cons ⟨t, rfl⟩ (vals_ints h)

/-- nothing is tracked but the script, known to the object (or it is an object of the module) -/
def Only (H : Hp) : Prop := ∀ b, H b = none ∨ ∃ o xs, H b = some (.frz o (.lst xs))

/-- THE HEAD: the law's promise, at the heap behind the top. F, the promise of the law's def, may use that base is part of the heap (so K.In base, base.Ns mainGlobals mg stand in Mod) -/
theorem law_call {P : Program} {w : World} {K : PySem.W.Frag} {mg mb : Str → Option Value} {CX : CXT} {k : Nat} {fa a : Addr} {fd : FuncData} {x : Str} {sp : Sp} {s₁ : Shared} {vs : List Value} {ns : List Int}
    (KX : K.In s₁.heap) (hns : s₁.heap.Ns mainGlobals mg) (hb : s₁.heap.Ns builtinsNs mb) (hbb : ∀ x : Str, x ≠ "__name__" → mb x = bootBuiltins x) (hlim : s₁.heap.NoLimit) (hg : s₁.gens = #[])
    (ha : s₁.heap.get? a = some { cls := .type "list", data := .seq vs.toArray }) (hi : IntsAre vs ns) (hl : ns.length ≤ sizeLine) (hr : Room k callerA)
    (F : ∀ base : Heap, K.In base → base.Ns mainGlobals mg → FnOk P w K mg base CX k fa fd [x] sp) (hbind : ∀ (s : Shared) (u : Value), BindsTo s fd ⟨[u], []⟩ [(x, u)])
    (hsp : ∀ H : Hp, Only H → SqL K H a (ns.map V.int) → sp [.ref a] H (fun v _ => v = .bl true) fun _ _ _ => False)
    (hCX : ∀ H e s', CX [] H s₁ (fun _ _ _ => False) e s' → False) :
    codeAny (model P w) callerA (.call (.ref fa) ⟨[.ref a], []⟩) (fun r s' => r = .ok (.ret (.bool true)) ∧ OldK s₁.heap s'.heap ∧ s'.os = s₁.os ∧ AllBare s'.gens) s₁ := by
  have rv := vals_ints hi
  have lenV := hi.length
  -- from an abstract heap in which nothing but the script may be tracked
  have core : ∀ H : Hp, Only H → SqL K H a (ns.map V.int) → HOk P w H s₁.heap → (∀ b, H b ≠ none → b = a) → (H a ≠ none → K.lookup a = none) →
      codeAny (model P w) callerA (.call (.ref fa) ⟨[.ref a], []⟩) (fun r s' => r = .ok (.ret (.bool true)) ∧ OldK s₁.heap s'.heap ∧ s'.os = s₁.os ∧ AllBare s'.gens) s₁ := by
    intro H hO hS hok hA hK
    have base_of : ∀ {b : Addr} {o : Obj}, s₁.heap.get? b = some o → H b = none → (hidT s₁.heap H).get? b = some o := fun e n => hidT_get e n
    have noA : ∀ {b : Addr} {o : Obj} {es : Array DictEntry} {ep : Nat}, s₁.heap.get? b = some o → o.data = .dict es ep → H b = none := fun {b o es ep} e d => by
      cases q : H b with
      | none => rfl
      | some u =>
        have e' : b = a := hA b (by rw [q]; simp)
        subst e'
        rw [ha] at e; cases e
        have d' : Data.seq vs.toArray _ = Data.dict es ep := d
        cases d'
    have nsK : ∀ {b : Addr} {m : Str → Option Value}, s₁.heap.Ns b m → (hidT s₁.heap H).Ns b m := fun {b m} ⟨o, es, ep, e, d, r⟩ => ⟨o, es, ep, base_of e (noA e d), d, r⟩
    have hKb : K.In (hidT s₁.heap H) := fun b o e => base_of (KX b o e) (by
      cases q : H b with
      | none => rfl
      | some u =>
        have e' : b = a := hA b (by rw [q]; simp)
        subst e'
        rw [hK (by rw [q]; simp)] at e; cases e)
    have hM : Mod K mg (hidT s₁.heap H) := ⟨hKb, nsK hns, ⟨mb, nsK hb, hbb⟩, let ⟨mc, h1, h2⟩ := hlim; ⟨mc, nsK h1, h2⟩⟩
    have e0 : Env0 P w K mg (hidT s₁.heap H) callerA [] s₁ H := ⟨rfl, hM, fun b o e => of_hidT e, Nat.le_of_eq (hidT_size _ _), trivial, fun b hb => absurd (show b ∈ ([] : List Addr) from hb) (by simp), hok, .of_eq hg⟩
    refine codeAny_mono ((F _ hKb (nsK hns)).run callerA [] s₁ H ⟨[.ref a], []⟩ [.ref a] [.ref a] _ _ hr e0 (hbind s₁ (.ref a)) (.cons rfl .nil) (hsp H hO hS)) fun r s' h => ?_
    cases r with
    | error e => exact (hCX H e s' h).elim
    | ok fl =>
      cases fl with
      | next => exact False.elim h
      | brk => exact False.elim h
      | cont => exact False.elim h
      | ret u =>
        obtain ⟨v, H', os, bare, un, hok', r', q⟩ := h
        have q' : v = .bl true := q
        subst q'
        obtain rfl : u = Value.bool true := r'
        refine ⟨rfl, OldK.of_keep fun b o e => ?_, os, bare⟩
        cases q : H b with
        | none => exact un.keep b o e q (by intro z; exact absurd (show b ∈ ([] : List Addr) from z) (by simp)) (by simp)
        | some u =>
          rcases hO b with z | ⟨ob, xs, z⟩
          · rw [q] at z; cases z
          · have z2 := un.frzs b ob _ z
            obtain ⟨e1, _⟩ := hok b _ z
            obtain ⟨e2, _⟩ := hok' b _ z2
            rw [e] at e1; cases e1
            exact e2
  cases hk : K.lookup a with
  | some o =>
    -- the script is one of the module's own objects
    have e := KX a o hk
    rw [ha] at e
    cases e
    refine core (fun _ => none) (fun _ => .inl rfl) (.inr ⟨_, vs.toArray, _, hk, rfl, rfl, rfl, by rw [List.size_toArray, lenV]; exact hl, by simpa using rv⟩) (fun b u z => by have z' : (none : Option HO) = some u := z; cases z') (fun b z => absurd rfl z) fun z => absurd rfl z
  | none =>
    refine core (fun b => if b = a then some (.frz { cls := .type "list", data := .seq vs.toArray } (.lst (ns.map V.int))) else none) (fun b => ?_) (.inl (.inr ⟨{ cls := .type "list", data := .seq vs.toArray }, if_pos rfl⟩)) (fun b u z => ?_) (fun b z => ?_) fun _ => hk
    · by_cases hb : b = a
      · exact .inr ⟨_, _, if_pos hb⟩
      · exact .inl (if_neg hb)
    · by_cases hb : b = a
      · have z' := (if_pos hb).symm.trans z
        cases z'
        subst hb
        exact ⟨ha, by rw [List.length_map]; exact hl, vs, _, rv, ha⟩
      · have z' := (if_neg hb).symm.trans z
        cases z'
    · by_cases hb : b = a
      · exact hb
      · exact absurd (if_neg hb) z
end L2

namespace L2
open PySem PySem.Spec PyProof.Rows

abbrev KOf {K : PySem.W.Frag} {h : Heap} (_ : K.In h) : PySem.W.Frag := K

/-- the goal that k_head leaves (case hc), from the law's promise. F gives the function object fd (K's own) once, then the promise over every base -/
theorem walk_of {l : PySem.W.OpenLaw} {n k : Nat} {q : Program} {loose : List Str} {XP : (Str → Option Value) → Heap → Prop} {YP : World → Heap → Prop} {d : DefRec} {K : Params → PySem.W.Frag} {CX : World → CXT} {sp : World → Sp} {x : Str}
    (hn : l.most = some n) (hn2 : n ≤ sizeLine) (hdf : d.params.defaults = []) (hr : Room k callerA)
    (hY : ∀ (w : World) (h : Heap), YP w h → (K w.params).In h)
    (F : ∀ (w : World) (mg : Str → Option Value) (fa : Addr) (h : Heap), (K w.params).In h → h.Ns mainGlobals mg → mg d.name = some (.ref fa) →
      ∃ fd : FuncData, (∀ (s : Shared) (u : Value), BindsTo s fd ⟨[u], []⟩ [(x, u)]) ∧
        ∀ base : Heap, (K w.params).In base → base.Ns mainGlobals mg → FnOk l.prog w (K w.params) mg base (CX w) k fa fd [x] (sp w))
    (hsp : ∀ (w : World) (H : Hp) (a : Addr) (ns : List Int), ns.length ≤ n → Only H → SqL (K w.params) H a (ns.map V.int) → sp w [.ref a] H (fun v _ => v = .bl true) fun _ _ _ => False)
    (hCX : ∀ (w : World) (H : Hp) (s : Shared) (e : Value) (s' : Shared), CX w [] H s (fun _ _ _ => False) e s' → False) :
    PySem.W.WalkO q loose XP YP l.row.toRowW d [] (fun f vs => PySem.call f vs) := by
  refine Att.attach_call hn hdf fun w s₀ s₁ mg mb fa o pm cd doc a vs ns G Y ho hd hcd hmg hobj hints hlen hg => ?_
  have KX := hY w _ Y
  obtain ⟨fd, hb, hF⟩ := F w mg fa _ KX G.T.g hmg
  exact law_call KX G.T.g G.T.b G.T.builtins G.T.nolimit hg hobj hints (Nat.le_trans hlen hn2) hr hF hb (fun H hO hS => hsp w H a ns hlen hO hS) fun H e s' => hCX w H s₁ e s'
/-- the same where the promise hangs on the written part alone: (sp := My.sp_law), no hole under a binder -/
theorem walk_ofK {l : PySem.W.OpenLaw} {n k : Nat} {q : Program} {loose : List Str} {XP : (Str → Option Value) → Heap → Prop} {YP : World → Heap → Prop} {d : DefRec} {K : Params → PySem.W.Frag} {CX : CXT} {sp : PySem.W.Frag → Sp} {x : Str}
    (hn : l.most = some n) (hn2 : n ≤ sizeLine) (hdf : d.params.defaults = []) (hr : Room k callerA)
    (hY : ∀ (w : World) (h : Heap), YP w h → (K w.params).In h)
    (F : ∀ (w : World) (mg : Str → Option Value) (fa : Addr) (h : Heap), (K w.params).In h → h.Ns mainGlobals mg → mg d.name = some (.ref fa) →
      ∃ fd : FuncData, (∀ (s : Shared) (u : Value), BindsTo s fd ⟨[u], []⟩ [(x, u)]) ∧
        ∀ base : Heap, (K w.params).In base → base.Ns mainGlobals mg → FnOk l.prog w (K w.params) mg base CX k fa fd [x] (sp (K w.params)))
    (hsp : ∀ (K : PySem.W.Frag) (H : Hp) (a : Addr) (ns : List Int), ns.length ≤ n → Only H → SqL K H a (ns.map V.int) → sp K [.ref a] H (fun v _ => v = .bl true) fun _ _ _ => False)
    (hCX : ∀ (H : Hp) (s : Shared) (e : Value) (s' : Shared), CX [] H s (fun _ _ _ => False) e s' → False) :
    PySem.W.WalkO q loose XP YP l.row.toRowW d [] (fun f vs => PySem.call f vs) :=
  walk_of (K := K) (CX := fun _ => CX) (sp := fun w => sp (K w.params)) hn hn2 hdf hr hY F (fun w H a ns h1 h2 h3 => hsp (K w.params) H a ns h1 h2 h3) fun _ H s e s' => hCX H s e s'
end L2

/- THE LAST THEOREM (shape; LID, My.* are yours):
   My.Adr: a structure of the addresses that your layer names (classes, functions); My.Txt K t: a structure (Prop) of the equations over K;
   My.txt_mk : {K} {implicit addresses ..} (e1 : nsIn K mainGlobals "law" = some (some (.ref f))) (e2 : K.lookup f = some ⟨oc, od, .func (fnOf "law" "law" params body scope dV kV doc pm an cdv ct), sl⟩) (e3 : codeIn K cdv "law" = true) .. : ∃ t, My.Txt K t

set_option maxRecDepth 100000 in
set_option maxHeartbeats 0 in
theorem PySem.Challenge.cw_LID_holds : PySem.Challenge.rw_LID.Holds := by
  w_on; o_law; k_head; (case hw => w_witness2)
  k_fill
  refine L2.walk_of (l := PySem.Challenge.rw_LID) (n := 63) (k := 40) (x := "script") (CX := fun w => ..) (sp := fun _ => My.sp_law) rfl (by decide) rfl ⟨rfl, by decide, by decide⟩ (fun w h Y => PySem.W.kIn_of Y) ?F ?S ?C
  case F =>
    intro w mg fa h KX G hmg
    have T : ∃ t, My.Txt (L2.KOf KX) t := by
      dsimp only [L2.KOf]                          -- K must stand as «<heap const> w.params» for k_is
      refine' My.txt_mk ?e1 ?e2 ?e3 ..
      (case e1 => PySem.W.k_is)                    -- in the order: a name -> its address -> its object -> its parts
      (case e2 => PySem.W.k_is)
      ..
    obtain ⟨t, T⟩ := T
    have e0 := hmg.symm.trans (PySem.W.mg_of KX G T.law)
    cases e0                                       -- fa is the law's own address
    exact ⟨_, fun s u => .of_eq rfl, fun base kb nb => My.law_fn T kb nb⟩     -- if «.of_eq rfl» comes too early: refine' ⟨_, ?b, fun base kb nb => My.law_fn T kb nb⟩; exact fun s u => .of_eq rfl
  case S => exact fun w H a ns hl hO hS => ..
  case C => exact ..
(the tactic k_is has no namespace: write k_is) -/

/-! SHORT WORDS over the layer: a def of the text, its body, what a loop and a test want. -/
namespace L2
open PySem PySem.Spec PyProof.Rows

/-! ### the text by places -/
/-- the j-th statement of a class's body -/
def inClass (s : Stmt) (j : Nat) : Stmt := match s with
  | .ClassDef _ _ _ body _ _ _ _ _ _ _ => body.getD j (.Pass ⟨0, 0, 0, 0⟩)
  | _ => .Pass ⟨0, 0, 0, 0⟩
def defArgs (s : Stmt) : Arguments := match s with
  | .FunctionDef _ a _ _ _ _ _ _ _ _ => a
  | _ => { posonlyargs := [], args := [], vararg := none, kwonlyargs := [], kw_defaults := [], kwarg := none, defaults := [] }
def defBody (s : Stmt) : List Stmt := match s with
  | .FunctionDef _ _ b _ _ _ _ _ _ _ => b
  | _ => []
def defScope (s : Stmt) : Scope := match s with
  | .FunctionDef _ _ _ _ _ _ sc _ _ _ => sc
  | _ => { kind := .function, names := [], isGenerator := false, isCoroutine := false }

/-! ### no exception leaves a def -/
abbrev CX0 : CXT := fun _ _ _ _ _ _ => False
abbrev E0 : XK := fun _ _ _ => False
theorem pass0 {X : Cx} : Passes CX0 X E0 := fun _ _ _ _ _ _ _ h => h.elim

/-! ### a def (or method) of the text as it stands behind the top -/
structure Fun (K : PySem.W.Frag) (x qual : Str) (st : Stmt) (f : Addr) (fd : FuncData) : Prop where
  ex : ∃ (oc : Value) (od : Option Addr) (kV doc pm : Value) (an : Option Addr) (cdv ct : Value) (osl : Array (Option Value)),
    fd = PySem.W.fnOf x qual (defArgs st) (defBody st) (defScope st) .none kV doc pm an cdv ct ∧ K.lookup f = some ⟨oc, od, .func fd, osl⟩ ∧ PySem.W.codeIn K cdv qual = true
  kp : PySem.W.keepIn K (.ref f) = true
section
variable {P : Program} {w : World} {K : PySem.W.Frag} {mg : Str → Option Value} {base : Heap}
/-- THE RULE for a def: its body as a term of rules, and the reading of that term -/
theorem Fun.ok {x qual : Str} {st : Stmt} {f : Addr} {fd : FuncData} {N ps : List Str} {k : Nat} {sp : Sp} (F : Fun K x qual st f fd) (S : FnScope N ps (defScope st)) (len : ∀ vs H Q E, sp vs H Q E → vs.length = ps.length)
    (hbody : ∀ (cdv : Value) (A : Around) (outer : List Env) (s : Shared) (H : Hp) (vs : List V) (Q : VK) (E : XK), Room k (A.deeper (envOfC qual (defScope st) s.heap.objs.size f cdv)) → sp vs H Q E →
      ∃ t, PSs (cxOf CX0 P w K mg base N qual (defScope st) f cdv A outer s H E).nox (defBody st) t ∧ t { nx := fun _ H' => Q .non H', rt := Q } (start N vs) H) : FnOk P w K mg base CX0 (k + 1) f fd ps sp := by
  obtain ⟨oc, od, kV, doc, pm, an, cdv, ct, osl, rfl, lk, hcd⟩ := F.ex
  refine fn_of lk hcd S len fun A outer s H vs Q E hr hsp => ?_
  obtain ⟨t, h, q⟩ := hbody cdv A outer s H vs Q E hr hsp
  exact ⟨t, h.nox, q⟩
/-- how its arguments bind (no defaults): h is «fun _ _ _ _ _ _ us hl => match us, hl with | [_, _], _ => rfl», one _ a parameter -/
theorem Fun.binds {x qual : Str} {st : Stmt} {f : Addr} {fd : FuncData} {ps : List Str} (F : Fun K x qual st f fd)
    (h : ∀ (kV doc pm : Value) (an : Option Addr) (cdv ct : Value) (us : List Value), us.length = ps.length → bindArgs (PySem.W.fnOf x qual (defArgs st) (defBody st) (defScope st) .none kV doc pm an cdv ct) ⟨us, []⟩ = pure (ps.zip us)) : Binds K fd ps [] := by
  obtain ⟨oc, od, kV, doc, pm, an, cdv, ct, osl, rfl, lk, hcd⟩ := F.ex
  exact .all (h kV doc pm an cdv ct)
theorem fun_mk {x qual : Str} {st : Stmt} {f : Addr} {oc : Value} {od an : Option Addr} {osl : Array (Option Value)} {kV doc pm cdv ct : Value} (l : K.lookup f = some ⟨oc, od, .func (PySem.W.fnOf x qual (defArgs st) (defBody st) (defScope st) .none kV doc pm an cdv ct), osl⟩)
    (c : PySem.W.codeIn K cdv qual = true) (k : PySem.W.keepIn K (.ref f) = true) : Fun K x qual st f (PySem.W.fnOf x qual (defArgs st) (defBody st) (defScope st) .none kV doc pm an cdv ct) := ⟨⟨oc, od, kV, doc, pm, an, cdv, ct, osl, rfl, l, c⟩, k⟩
end
theorem hu_of {A : Around} {k : Nat} (hr : Room k A) : A.units + 1 < cLine := Nat.lt_of_le_of_lt (Nat.add_le_add_left (by decide : 1 ≤ 64) _) hr.units
theorem small1000 {n : Nat} (h : n ≤ 1000) : n < sizeLine := Nat.lt_of_le_of_lt h (by decide)

/-! ### expressions in short: the name that stands in the i-th slot -/
section
variable {X : Cx}
theorem pv (i : Nat) {x : Str} {pos : Pos} (hN : X.N[i]? = some x := by rfl) (hv : Vis X.env.scope x := by first | exact Or.inl rfl | exact Or.inr (Or.inl rfl) | exact Or.inr (Or.inr rfl)) (hd : (x == ("__debug__" : Str)) = false := by decide)
    (hcd : (x == ("__classdict__" : Str)) = false := by decide) : PE X (.Name x pos) (tVar i) := pe_var hN hv hd hcd
end

/-! ### tests -/
theorem iteF {A B : Prop} (h : B) : if false = true then A else B := by
  rw [if_neg Bool.false_ne_true]
  exact h
theorem iteT {A B : Prop} (h : A) : if true = true then A else B := by
  rw [if_pos rfl]
  exact h
theorem ite2 {c A B : Prop} [Decidable c] (h1 : c → A) (h2 : ¬ c → B) : if c then A else B := by
  by_cases h : c
  · rw [if_pos h]
    exact h1 h
  · rw [if_neg h]
    exact h2 h
theorem iteNS {c A B : Prop} [Decidable c] (hc : c) (h : B) : if (!decide c) = true then A else B := by
  rw [decide_eq_true hc]
  exact iteF h

/-! ### heaps -/
/-- all that was tracked is as it was -/
def Same (H H' : Hp) : Prop := ∀ b o, H b = some o → H' b = some o
theorem Same.refl (H : Hp) : Same H H := fun _ _ h => h
theorem Same.trans {H H1 H2 : Hp} (a : Same H H1) (b : Same H1 H2) : Same H H2 := fun c o h => b c o (a c o h)
theorem Same.free {H H' : Hp} (e : Same H H') {l : Addr} (h : H' l = Option.none) : H l = Option.none := by
  cases q : H l with
  | none => rfl
  | some o =>
    rw [e l o q] at h
    cases h
theorem Same.seq {K : PySem.W.Frag} {H H' : Hp} {a : Addr} {xs : List V} (e : Same H H') (h : SqL K H a xs) : SqL K H' a xs := by
  rcases h with (h | ⟨o, h⟩) | h
  · exact .inl (.inl (e _ _ h))
  · exact .inl (.inr ⟨o, e _ _ h⟩)
  · exact .inr h

end L2

namespace L2
open PySem PySem.Spec PyProof.Rows
/-! ### a dict's pairs: keys that differ -/
section
variable {κ : Type} [DecidableEq κ]
theorem valV_not {kvs : List (κ × V)} {k : κ} (h : valV kvs k = none) : ¬ k ∈ kvs.map (·.1) := by
  intro m
  obtain ⟨p, hp, e⟩ := List.mem_map.mp m
  have q : (kvs.any fun kv => decide (kv.1 = k)) = true := List.any_eq_true.mpr ⟨p, hp, decide_eq_true e⟩
  rw [valV_any, h] at q
  exact absurd q (by simp)
theorem valV_in {kvs : List (κ × V)} {k : κ} {v : V} (h : valV kvs k = some v) : k ∈ kvs.map (·.1) := by
  have q : (kvs.any fun kv => decide (kv.1 = k)) = true := by
    rw [valV_any, h]
    all_goals rfl
  obtain ⟨p, hp, e⟩ := List.any_eq_true.mp q
  exact List.mem_map.mpr ⟨p, hp, of_decide_eq_true e⟩
theorem nd_snoc : ∀ {l : List κ} {k : κ}, l.Nodup → ¬ k ∈ l → (l ++ [k]).Nodup
  | [], k, _, _ => by simp
  | a :: r, k, h, hk => by
    obtain ⟨h1, h2⟩ := List.nodup_cons.mp h
    show (a :: (r ++ [k])).Nodup
    refine List.nodup_cons.mpr ⟨fun m => ?_, nd_snoc h2 fun m => hk (List.mem_cons.mpr (Or.inr m))⟩
    rcases List.mem_append.mp m with q | q
    · exact h1 q
    · exact hk (List.mem_cons.mpr (Or.inl (List.mem_singleton.mp q).symm))
theorem nd_putK {kvs : List (κ × V)} {k : κ} (v : V) (hn : (kvs.map (·.1)).Nodup) (h : valV kvs k = none) : ((putK kvs k v).map (·.1)).Nodup := by
  rw [putK_new v h, List.map_append]
  exact nd_snoc hn (valV_not h)
theorem dropK_pos {p : κ × V} {r : List (κ × V)} {k : κ} (e : p.1 = k) : dropK (p :: r) k = dropK r k := by
  unfold dropK
  rw [List.filter_cons, if_neg (by simp [e])]
theorem dropK_neg {p : κ × V} {r : List (κ × V)} {k : κ} (e : ¬ p.1 = k) : dropK (p :: r) k = p :: dropK r k := by
  unfold dropK
  rw [List.filter_cons, if_pos (by simp [e])]
theorem dropK_no : ∀ {kvs : List (κ × V)} {k : κ}, ¬ k ∈ kvs.map (·.1) → dropK kvs k = kvs
  | [], _, _ => rfl
  | p :: r, k, h => by
    have h' : ¬ k ∈ r.map (·.1) := fun m => by
      obtain ⟨q, hq, e⟩ := List.mem_map.mp m
      exact h (List.mem_map.mpr ⟨q, List.mem_cons.mpr (Or.inr hq), e⟩)
    rw [dropK_neg fun e => h (List.mem_map.mpr ⟨p, List.mem_cons.mpr (Or.inl rfl), e⟩), dropK_no h']
theorem dropK_mem {kvs : List (κ × V)} {k : κ} {p : κ × V} (h : p ∈ dropK kvs k) : p ∈ kvs := (List.mem_filter.mp h).1
theorem nd_dropK : ∀ {kvs : List (κ × V)} {k : κ}, (kvs.map (·.1)).Nodup → ((dropK kvs k).map (·.1)).Nodup
  | [], _, _ => List.nodup_nil
  | p :: r, k, h => by
    have h : (p.1 :: r.map (·.1)).Nodup := h
    obtain ⟨h1, h2⟩ := List.nodup_cons.mp h
    by_cases e : p.1 = k
    · rw [dropK_pos e]
      exact nd_dropK h2
    · rw [dropK_neg e]
      show (p.1 :: (dropK r k).map (·.1)).Nodup
      refine List.nodup_cons.mpr ⟨fun m => h1 ?_, nd_dropK h2⟩
      obtain ⟨q, hq, eq⟩ := List.mem_map.mp m
      exact List.mem_map.mpr ⟨q, dropK_mem hq, eq⟩
theorem dropK_len : ∀ {kvs : List (κ × V)} {k : κ}, (kvs.map (·.1)).Nodup → k ∈ kvs.map (·.1) → (dropK kvs k).length + 1 = kvs.length
  | [], _, _, m => by simp at m
  | p :: r, k, h, m => by
    have h : (p.1 :: r.map (·.1)).Nodup := h
    have m : k = p.1 ∨ k ∈ r.map (·.1) := List.mem_cons.mp m
    obtain ⟨h1, h2⟩ := List.nodup_cons.mp h
    by_cases e : p.1 = k
    · subst e
      rw [dropK_pos rfl, dropK_no h1]
      all_goals rfl
    · have m' : k ∈ r.map (·.1) := m.resolve_left fun z => e z.symm
      have q := dropK_len h2 m'
      rw [dropK_neg e, List.length_cons, List.length_cons]
      omega
end
end L2

section
set_option autoImplicit false
set_option linter.all false
namespace K2
open PySem (Str)

/-- a value: scalars, tuples by value, a list that nobody changes (by value), a thing on the heap -/
inductive D where
  | non | bl (b : Bool) | int (i : Int) | str (x : Str) | tup (ds : List D) | rol (ds : List D) | ref (a : Nat)
  deriving Inhabited

inductive GO where
  | lst (ds : List D)
  | dic (kvs : List (D × D))
abbrev Gp := Nat → Option GO
def updG (G : Gp) (a : Nat) (o : GO) : Gp := fun b => if b = a then some o else G b
theorem updG_same {G : Gp} {a : Nat} {o : GO} : updG G a o a = some o := by unfold updG; rw [if_pos rfl]
theorem updG_ne {G : Gp} {a b : Nat} {o : GO} (h : b ≠ a) : updG G a o b = G b := by unfold updG; rw [if_neg h]
abbrev SZ : Nat := 16777216

/-- an exception: its class's name, its own values -/
structure Ex where
  cls : Str
  flds : List (Str × D)
abbrev XK2 := Ex → Gp → Prop
abbrev St2 := List (Option D)
abbrev DK := D → Gp → Prop
abbrev TE2 := XK2 → St2 → Gp → DK → Prop
abbrev TT2 := XK2 → St2 → Gp → (Bool → Gp → Prop) → Prop
abbrev TA2 := XK2 → St2 → Gp → (List D → Gp → Prop) → Prop
structure Ends2 where
  nx : St2 → Gp → Prop
  rt : DK
  bk : St2 → Gp → Prop
  ct : St2 → Gp → Prop
abbrev TS2 := XK2 → Ends2 → St2 → Gp → Prop
abbrev Sp2 := List D → Gp → DK → XK2 → Prop
abbrev R22 := D → D → Gp → DK → Prop

/-! ### places, slices -/
def ixN (n : Nat) (i : Int) : Option Nat := if 0 ≤ i then (if i < n then some i.toNat else none) else if -(n : Int) ≤ i then some (i + n).toNat else none
def atI {α : Type} (xs : List α) (i : Int) : Option α := (ixN xs.length i).bind fun j => xs[j]?
def sIx (n d : Nat) : Option Int → Nat
  | none => d
  | some v => if v < 0 then (v + (n : Int)).toNat else min v.toNat n
def cut {α : Type} (xs : List α) (lo hi : Option Int) : List α := (xs.drop (sIx xs.length 0 lo)).take (sIx xs.length xs.length hi - sIx xs.length 0 lo)

/-! ### equality and order of snapshots -/
mutual
def eqD : D → D → Bool
  | .non, .non => true
  | .bl a, .bl b => a == b
  | .bl a, .int b => (if a then 1 else 0) == b
  | .int a, .bl b => a == (if b then 1 else 0)
  | .int a, .int b => a == b
  | .str a, .str b => a == b
  | .tup a, .tup b => eqDs a b
  | .rol a, .rol b => eqDs a b
  | _, _ => false
def eqDs : List D → List D → Bool
  | [], [] => true
  | a :: r, b :: t => eqD a b && eqDs r t
  | _, _ => false
end
mutual
/-- nothing of the heap within, texts of true signs -/
def nr : D → Bool
  | .ref _ => false
  | .str x => x.cps.all (· < 0x110000)
  | .tup ds => nrs ds
  | .rol ds => nrs ds
  | _ => true
def nrs : List D → Bool
  | [] => true
  | d :: r => nr d && nrs r
end
/-- a snapshot of a value: lists as they stand, at most n deep -/
inductive Sn (G : Gp) : Nat → D → D → Prop
  | non {n : Nat} : Sn G n .non .non
  | bl {n : Nat} (b : Bool) : Sn G n (.bl b) (.bl b)
  | int {n : Nat} (i : Int) : Sn G n (.int i) (.int i)
  | str {n : Nat} (x : Str) (h : x.cps.all (· < 0x110000) = true) : Sn G n (.str x) (.str x)
  | tnil {n : Nat} : Sn G (n + 1) (.tup []) (.tup [])
  | tcons {n : Nat} {d s : D} {ds ss : List D} : Sn G n d s → Sn G (n + 1) (.tup ds) (.tup ss) → Sn G (n + 1) (.tup (d :: ds)) (.tup (s :: ss))
  | rnil {n : Nat} : Sn G (n + 1) (.rol []) (.rol [])
  | rcons {n : Nat} {d s : D} {ds ss : List D} : Sn G n d s → Sn G (n + 1) (.rol ds) (.rol ss) → Sn G (n + 1) (.rol (d :: ds)) (.rol (s :: ss))
  | ref {n : Nat} {a : Nat} {ds ss : List D} : G a = some (.lst ds) → Sn G n (.rol ds) (.rol ss) → Sn G n (.ref a) (.rol ss)
abbrev SN : Nat := 8

theorem Sn.nr {G : Gp} {n : Nat} {d t : D} (h : Sn G n d t) : K2.nr t = true := by
  induction h with
  | non => rfl
  | bl b => rfl
  | int i => rfl
  | str x h => exact h
  | tnil => rfl
  | tcons _ _ ih1 ih2 =>
    show (K2.nr _ && K2.nrs _) = true
    rw [ih1]
    exact ih2
  | rnil => rfl
  | rcons _ _ ih1 ih2 =>
    show (K2.nr _ && K2.nrs _) = true
    rw [ih1]
    exact ih2
  | ref _ _ ih => exact ih

/-- dict keys: ints, texts, tuples of these -/
def keyOk1 : D → Bool
  | .int _ => true
  | .str _ => true
  | _ => false
/-- truth -/
def tru : D → Gp → Option Bool
  | .non, _ => some false
  | .bl b, _ => some b
  | .int i, _ => some (i != 0)
  | .str x, _ => if x.length ≤ SZ then some ((x.length : Int) != 0) else none
  | .tup ds, _ => some (!ds.isEmpty)
  | .rol ds, _ => some (!ds.isEmpty)
  | .ref a, G => match G a with
    | some (.lst ds) => some (!ds.isEmpty)
    | some (.dic kvs) => if (kvs.all fun p => keyOk1 p.1) = true then some (!kvs.isEmpty) else none
    | none => none

/-! ### expressions -/
def dVar (i : Nat) : TE2 := fun _ τ G Q => match τ[i]? with
  | some (some d) => Q d G
  | _ => False
def dC (d : D) : TE2 := fun _ _ G Q => Q d G
def dNil : TA2 := fun _ _ G Q => Q [] G
def dCons (a : TE2) (r : TA2) : TA2 := fun E τ G Q => a E τ G fun x G1 => r E τ G1 fun xs G2 => Q (x :: xs) G2
def dTup (t : TA2) : TE2 := fun E τ G Q => t E τ G fun ds G1 => ds.length ≤ SZ ∧ Q (.tup ds) G1
def dLst (t : TA2) : TE2 := fun E τ G Q => t E τ G fun ds G1 => ds.length ≤ SZ ∧ ∀ p, G1 p = none → Q (.ref p) (updG G1 p (.lst ds))
def dBin (r : R22) (a b : TE2) : TE2 := fun E τ G Q => a E τ G fun x G1 => b E τ G1 fun y G2 => r x y G2 Q
def dUn (r : D → Gp → DK → Prop) (a : TE2) : TE2 := fun E τ G Q => a E τ G fun x G1 => r x G1 Q
def dNew (G : Gp) (o : GO) (Q : DK) : Prop := ∀ p, G p = none → Q (.ref p) (updG G p o)

def MulOk (i j : Int) : Prop := (-(2 ^ 64) < i ∧ i < 2 ^ 64) ∨ (-(2 ^ 64) < j ∧ j < 2 ^ 64)
/-- a list's items -/
def lstOf : D → Gp → Option (List D)
  | .rol ds, _ => some ds
  | .ref a, G => match G a with
    | some (.lst ds) => some ds
    | _ => none
  | _, _ => none
def addL (x y : D) (G : Gp) (Q : DK) : Prop := match lstOf x G, lstOf y G with
  | some xs, some ys => xs.length + ys.length ≤ SZ ∧ dNew G (.lst (xs ++ ys)) Q
  | _, _ => False
def rAdd : R22
  | .int i, .int j, G, Q => Q (.int (i + j)) G
  | .str a, .str b, G, Q => a.length + b.length ≤ SZ ∧ Q (.str (a ++ b)) G
  | .tup a, .tup b, G, Q => a ≠ [] ∧ a.length + b.length ≤ SZ ∧ Q (.tup (a ++ b)) G
  | x, y, G, Q => addL x y G Q
def rSub : R22
  | .int i, .int j, G, Q => Q (.int (i - j)) G
  | _, _, _, _ => False
def rMul : R22
  | .int i, .int j, G, Q => MulOk i j ∧ Q (.int (i * j)) G
  | _, _, _, _ => False
def rMod : R22
  | .int i, .int j, G, Q => 0 < j ∧ Q (.int (i % j)) G
  | _, _, _, _ => False
def rFdiv : R22
  | .int i, .int j, G, Q => 0 < j ∧ j < 2 ^ 30 ∧ Q (.int (i / j)) G
  | _, _, _, _ => False
def rNeg : D → Gp → DK → Prop
  | .int i, G, Q => Q (.int (-i)) G
  | _, _, _ => False

def rEq (neg : Bool) : R22 := fun x y G Q => ∃ a b, Sn G SN x a ∧ Sn G SN y b ∧ Q (.bl (if neg then !eqD a b else eqD a b)) G
def lexLt : List Int → List Int → Bool
  | [], [] => false
  | [], _ :: _ => true
  | _ :: _, [] => false
  | x :: xs, y :: ys => if x = y then lexLt xs ys else decide (x < y)
def rLt : R22
  | .int i, .int j, G, Q => Q (.bl (decide (i < j))) G
  | .tup a, .tup b, G, Q => ∃ xs ys, a = xs.map D.int ∧ b = ys.map D.int ∧ Q (.bl (lexLt xs ys)) G
  | _, _, _, _ => False
def rLe : R22
  | .int i, .int j, G, Q => Q (.bl (decide (i ≤ j))) G
  | _, _, _, _ => False
def rGt : R22
  | .int i, .int j, G, Q => Q (.bl (decide (i > j))) G
  | _, _, _, _ => False
def rGe : R22
  | .int i, .int j, G, Q => Q (.bl (decide (i ≥ j))) G
  | _, _, _, _ => False
def rIsN (neg : Bool) : D → Gp → DK → Prop := fun x G Q => match x with
  | .non => Q (.bl (!neg)) G
  | _ => Q (.bl neg) G

/-- a list's or tuple's items -/
def itemsOf : D → Gp → Option (List D)
  | .tup ds, _ => some ds
  | .rol ds, _ => some ds
  | .ref a, G => match G a with
    | some (.lst ds) => some ds
    | _ => none
  | _, _ => none
/-- tuples of these -/
def keyOkT : D → Bool
  | .tup ds => ds.all keyOk1
  | _ => false
/-- the key is of the kind of the keys there -/
def kindOk (kvs : List (D × D)) (k : D) : Bool := (keyOk1 k && kvs.all fun p => keyOk1 p.1) || (keyOkT k && kvs.all fun p => keyOkT p.1)
def look (kvs : List (D × D)) (k : D) : Option D := (kvs.find? fun p => eqD p.1 k).map (·.2)
def put (kvs : List (D × D)) (k v : D) : List (D × D) :=
  if (kvs.any fun p => eqD p.1 k) = true then kvs.map (fun p => if eqD p.1 k = true then (p.1, v) else p) else kvs ++ [(k, v)]
def rIn (neg : Bool) : R22 := fun x y G Q => match y with
  | .ref a => (match G a with
    | some (.dic kvs) => kindOk kvs x = true ∧ Q (.bl (if neg then !(look kvs x).isSome else (look kvs x).isSome)) G
    | some (.lst ds) => ∃ s ss, Sn G SN x s ∧ Sn G SN (.rol ds) (.rol ss) ∧ Q (.bl (if neg then !ss.any (eqD · s) else ss.any (eqD · s))) G
    | none => False)
  | .tup ds => ∃ s ss, Sn G SN x s ∧ Sn G SN (.rol ds) (.rol ss) ∧ Q (.bl (if neg then !ss.any (eqD · s) else ss.any (eqD · s))) G
  | .rol ds => ∃ s ss, Sn G SN x s ∧ Sn G SN (.rol ds) (.rol ss) ∧ Q (.bl (if neg then !ss.any (eqD · s) else ss.any (eqD · s))) G
  | _ => False

def rIx : R22
  | .tup ds, .int i, G, Q => (match atI ds i with
    | some d => Q d G
    | none => False)
  | .rol ds, .int i, G, Q => (match atI ds i with
    | some d => Q d G
    | none => False)
  | .ref a, k, G, Q => (match G a with
    | some (.lst ds) => (match k with
      | .int i => (match atI ds i with
        | some d => Q d G
        | none => False)
      | _ => False)
    | some (.dic kvs) => kindOk kvs k = true ∧ (match look kvs k with
      | some d => Q d G
      | none => False)
    | none => False)
  | _, _, _, _ => False
abbrev TO2 := XK2 → St2 → Gp → (Option Int → Gp → Prop) → Prop
def dNoPart : TO2 := fun _ _ G Q => Q none G
def dPart (t : TE2) : TO2 := fun E τ G Q => t E τ G fun x G1 => match x with
  | .int i => Q (some i) G1
  | _ => False
def rSl : D → Option Int → Option Int → Gp → DK → Prop
  | .tup ds, lo, hi, G, Q => ¬ (sIx ds.length 0 lo = 0 ∧ sIx ds.length ds.length hi = ds.length) ∧ Q (.tup (cut ds lo hi)) G
  | .rol ds, lo, hi, G, Q => dNew G (.lst (cut ds lo hi)) Q
  | .ref a, lo, hi, G, Q => (match G a with
    | some (.lst ds) => dNew G (.lst (cut ds lo hi)) Q
    | _ => False)
  | _, _, _, _, _ => False
def dSl (a : TE2) (lo hi : TO2) : TE2 := fun E τ G Q => a E τ G fun x G1 => lo E τ G1 fun l G2 => hi E τ G2 fun h G3 => rSl x l h G3 Q

/-! ### tests -/
def dTru (a : TE2) : TT2 := fun E τ G Q => a E τ G fun x G1 => match tru x G1 with
  | some b => Q b G1
  | none => False
def dAnd (a b : TT2) : TT2 := fun E τ G Q => a E τ G fun c G1 => if c = true then b E τ G1 Q else Q false G1
def dOr (a b : TT2) : TT2 := fun E τ G Q => a E τ G fun c G1 => if c = true then Q true G1 else b E τ G1 Q
def dNot (a : TT2) : TT2 := fun E τ G Q => a E τ G fun c G1 => Q (!c) G1
def dAndV (a b : TE2) : TE2 := fun E τ G Q => a E τ G fun x G1 => match tru x G1 with
  | some true => b E τ G1 Q
  | some false => Q x G1
  | none => False
def dOrV (a b : TE2) : TE2 := fun E τ G Q => a E τ G fun x G1 => match tru x G1 with
  | some true => Q x G1
  | some false => b E τ G1 Q
  | none => False
def dNotV (a : TE2) : TE2 := fun E τ G Q => a E τ G fun x G1 => match tru x G1 with
  | some c => Q (.bl (!c)) G1
  | none => False
def dIf (c : TT2) (a b : TE2) : TE2 := fun E τ G Q => c E τ G fun k G1 => if k = true then a E τ G1 Q else b E τ G1 Q

/-! ### calls -/
def dCall (sp : Sp2) (t : TA2) : TE2 := fun E τ G Q => t E τ G fun ds G1 => sp ds G1 Q fun _ _ => False
def dCB (r : List D → Gp → DK → Prop) (t : TA2) : TE2 := fun E τ G Q => t E τ G fun ds G1 => r ds G1 Q
/-- it is a list, a dict, a text -/
def tyL (x : D) (G : Gp) : Prop := match x with
  | .ref a => (match G a with
    | some (.lst _) => True
    | _ => False)
  | .rol _ => True
  | _ => False
def tyC (x : D) (G : Gp) : Prop := match x with
  | .ref a => (match G a with
    | some (.dic _) => True
    | _ => False)
  | _ => False
def tyS (x : D) (_ : Gp) : Prop := match x with
  | .str _ => True
  | _ => False
def dMt (ty : D → Gp → Prop) (r : D → List D → Gp → DK → Prop) (o : TE2) (t : TA2) : TE2 := fun E τ G Q => o E τ G fun x G1 => ty x G1 ∧ t E τ G1 fun ds G2 => r x ds G2 Q

def lenOf : D → Gp → Option Nat
  | .tup ds, _ => some ds.length
  | .rol ds, _ => some ds.length
  | .str x, _ => if x.length ≤ SZ then some x.length else none
  | .ref a, G => match G a with
    | some (.lst ds) => some ds.length
    | some (.dic kvs) => if (kvs.all fun p => keyOk1 p.1) = true then some kvs.length else none
    | none => none
  | _, _ => none
def cLen (ds : List D) (G : Gp) (Q : DK) : Prop := match ds with
  | [x] => (match lenOf x G with
    | some n => Q (.int (n : Int)) G
    | none => False)
  | _ => False
def cList (ds : List D) (G : Gp) (Q : DK) : Prop := match ds with
  | [x] => (match itemsOf x G with
    | some xs => dNew G (.lst xs) Q
    | none => False)
  | _ => False
def isI (C : String) : D → Gp → Option Bool
  | .non, _ => some false
  | .bl _, _ => some (C == "bool" || C == "int")
  | .int _, _ => some (C == "int")
  | .str _, _ => some (C == "str")
  | .tup _, _ => some (C == "tuple")
  | .rol _, _ => some (C == "list")
  | .ref a, G => match G a with
    | some (.lst _) => some (C == "list")
    | some (.dic _) => some (C == "dict")
    | none => none
def dIsi (C : String) (a : TE2) : TE2 := fun E τ G Q => a E τ G fun x G1 => match isI C x G1 with
  | some b => Q (.bl b) G1
  | none => False
/-- all, any of a list of bools -/
def cAll (ds : List D) (G : Gp) (Q : DK) : Prop := match ds with
  | [x] => ∃ bs : List Bool, itemsOf x G = some (bs.map D.bl) ∧ Q (.bl (bs.all id)) G
  | _ => False
def cAny (ds : List D) (G : Gp) (Q : DK) : Prop := match ds with
  | [x] => ∃ bs : List Bool, itemsOf x G = some (bs.map D.bl) ∧ Q (.bl (bs.any id)) G
  | _ => False

/-! ### methods -/
def mAppend (x : D) (ds : List D) (G : Gp) (Q : DK) : Prop := match x, ds with
  | .ref a, [d] => (match G a with
    | some (.lst xs) => xs.length < SZ ∧ Q .non (updG G a (.lst (xs ++ [d])))
    | _ => False)
  | _, _ => False
def mExtend (x : D) (ds : List D) (G : Gp) (Q : DK) : Prop := match x, ds with
  | .ref a, [y] => (match G a, lstOf y G with
    | some (.lst xs), some ys => xs.length + ys.length ≤ SZ ∧ Q .non (updG G a (.lst (xs ++ ys)))
    | _, _ => False)
  | _, _ => False
def mInsert (x : D) (ds : List D) (G : Gp) (Q : DK) : Prop := match x, ds with
  | .ref a, [.int i, d] => (match G a with
    | some (.lst xs) => 0 ≤ i ∧ i ≤ xs.length ∧ xs.length < SZ ∧ Q .non (updG G a (.lst (xs.take i.toNat ++ d :: xs.drop i.toNat)))
    | _ => False)
  | _, _ => False
def mClearL (x : D) (ds : List D) (G : Gp) (Q : DK) : Prop := match x, ds with
  | .ref a, [] => (match G a with
    | some (.lst _) => Q .non (updG G a (.lst []))
    | _ => False)
  | _, _ => False
/-- the place of the first item that is equal -/
def mIndex (x : D) (ds : List D) (G : Gp) (Q : DK) : Prop := match ds with
  | [d] => tyL x G ∧ ∃ xs s ss, itemsOf x G = some xs ∧ Sn G SN d s ∧ Sn G SN (.rol xs) (.rol ss) ∧ (match ss.findIdx? (eqD · s) with
    | some k => Q (.int (k : Int)) G
    | none => False)
  | _ => False
def mSetdefault (x : D) (ds : List D) (G : Gp) (Q : DK) : Prop := match x, ds with
  | .ref a, [k, d] => (match G a with
    | some (.dic kvs) => kindOk kvs k = true ∧ keyOk1 k = true ∧ (match look kvs k with
      | some v => Q v G
      | none => kvs.length < SZ ∧ Q d (updG G a (.dic (put kvs k d))))
    | _ => False)
  | _, _ => False

/-! ### statements -/
def dNext : TS2 := fun _ K τ G => K.nx τ G
def dSeq (a b : TS2) : TS2 := fun E K τ G => a E { K with nx := b E K } τ G
def dExpr (a : TE2) : TS2 := fun E K τ G => a E τ G fun _ G1 => K.nx τ G1
def dRet (a : TE2) : TS2 := fun E K τ G => a E τ G K.rt
def dRetN : TS2 := fun _ K _ G => K.rt .non G
def dIfS (c : TT2) (a b : TS2) : TS2 := fun E K τ G => c E τ G fun k G1 => if k = true then a E K τ G1 else b E K τ G1
def dBrk : TS2 := fun _ K τ G => K.bk τ G
def dCont : TS2 := fun _ K τ G => K.ct τ G
def dNever : TS2 := fun _ _ _ _ => False
abbrev TG2 := XK2 → D → St2 → Gp → (St2 → Gp → Prop) → Prop
abbrev TGs2 := XK2 → List D → St2 → Gp → (St2 → Gp → Prop) → Prop
def gName (i : Nat) : TG2 := fun _ d τ G Q => Q (τ.set i (some d)) G
def gNil : TGs2 := fun _ ds τ G Q => match ds with
  | [] => Q τ G
  | _ => False
def gCons (t : TG2) (r : TGs2) : TGs2 := fun E ds τ G Q => match ds with
  | d :: ds => t E d τ G fun τ1 G1 => r E ds τ1 G1 Q
  | _ => False
def gTup (t : TGs2) : TG2 := fun E d τ G Q => match d with
  | .tup ds => t E ds τ G Q
  | _ => False
/-- o[k] = .. -/
def setIx (o k d : D) (G : Gp) (Q : Gp → Prop) : Prop := match o with
  | .ref a => (match G a with
    | some (.lst xs) => (match k with
      | .int i => (match ixN xs.length i with
        | some j => Q (updG G a (.lst (xs.set j d)))
        | none => False)
      | _ => False)
    | some (.dic kvs) => kindOk kvs k = true ∧ kvs.length < SZ ∧ Q (updG G a (.dic (put kvs k d)))
    | none => False)
  | _ => False
def gSub (o k : TE2) : TG2 := fun E d τ G Q => o E τ G fun x G1 => k E τ G1 fun y G2 => setIx x y d G2 fun G3 => Q τ G3
def dAsg (a : TE2) (g : TG2) : TS2 := fun E K τ G => a E τ G fun x G1 => g E x τ G1 K.nx
def dAug (i : Nat) (r : R22) (a : TE2) : TS2 := fun E K τ G => match τ[i]? with
  | some (some x) => a E τ G fun y G1 => r x y G1 fun z G2 => K.nx (τ.set i (some z)) G2
  | _ => False

/-! ### walks -/
/-- what a loop walks: the items, and what must stay -/
abbrev TI2 := XK2 → St2 → Gp → (List D → (Gp → Prop) → Gp → Prop) → Prop
def iSeq (a : TE2) : TI2 := fun E τ G R => a E τ G fun x G1 => match x with
  | .tup ds => R ds (fun _ => True) G1
  | .rol ds => R ds (fun _ => True) G1
  | .ref p => (match G1 p with
    | some (.lst ds) => R ds (fun G2 => G2 p = some (.lst ds)) G1
    | _ => False)
  | _ => False
def rangeD (lo : Int) (n : Nat) : List D := (List.range n).map fun (i : Nat) => D.int (lo + (i : Int))
def iRng1 (a : TE2) : TI2 := fun E τ G R => a E τ G fun x G1 => match x with
  | .int n => -(2 ^ 62) ≤ n ∧ n < 2 ^ 62 ∧ R (rangeD 0 n.toNat) (fun _ => True) G1
  | _ => False
def iRng2 (a b : TE2) : TI2 := fun E τ G R => a E τ G fun x G1 => b E τ G1 fun y G2 => match x, y with
  | .int i, .int j => (-(2 ^ 62) ≤ i ∧ i < 2 ^ 62 ∧ -(2 ^ 62) ≤ j ∧ j < 2 ^ 62) ∧ R (rangeD i (j - i).toNat) (fun _ => True) G2
  | _, _ => False
def forGo (g : TG2) (body : TS2) (ok : Gp → Prop) : List D → TS2
  | [] => fun _ K τ G => ok G ∧ K.nx τ G
  | d :: r => fun E K τ G => ok G ∧ g E d τ G fun τ1 G1 => body E { K with nx := forGo g body ok r E K, ct := forGo g body ok r E K, bk := K.nx } τ1 G1
def dFor (i : TI2) (g : TG2) (body : TS2) : TS2 := fun E K τ G => i E τ G fun ds ok G1 => forGo g body ok ds E K τ G1
def whGo (c : TT2) (body : TS2) : Nat → TS2
  | 0 => fun _ _ _ _ => False
  | n + 1 => fun E K τ G => c E τ G fun k G1 => if k = true then body E { K with nx := whGo c body n E K, ct := whGo c body n E K, bk := K.nx } τ G1 else K.nx τ G1
def dWhile (c : TT2) (body : TS2) : TS2 := fun E K τ G => ∃ n, whGo c body n E K τ G

/-! ### comprehensions: m of the block's names are its own, the others (free) stand at the places fr of the def's names -/
def compGo (g : TG2) (c : Option TT2) (e : TE2) (ok : Gp → Prop) : List D → XK2 → St2 → Gp → List D → (List D → Gp → Prop) → Prop
  | [], _, _, G, acc, Q => ok G ∧ Q acc G
  | d :: r, E, τ, G, acc, Q => ok G ∧ g E d τ G fun τ1 G1 => match c with
    | none => e E τ1 G1 fun x G2 => compGo g c e ok r E τ1 G2 (acc ++ [x]) Q
    | some c => c E τ1 G1 fun k G2 => if k = true then e E τ1 G2 fun x G3 => compGo g (some c) e ok r E τ1 G3 (acc ++ [x]) Q else compGo g (some c) e ok r E τ1 G2 acc Q
def compSt (m : Nat) (fr : List Nat) (τ : St2) : St2 := List.replicate m none ++ fr.map fun i => (τ[i]?).getD none
def dComp (m : Nat) (fr : List Nat) (i : TI2) (g : TG2) (c : Option TT2) (e : TE2) : TE2 := fun E τ G Q =>
  i E τ G fun ds ok G1 => ds.length ≤ SZ ∧ compGo g c e ok ds E (compSt m fr τ) G1 [] fun xs G2 => dNew G2 (.lst xs) Q
/-! ### least, of ints and of tuples of ints -/
abbrev tI (ns : List Int) : D := .tup (ns.map D.int)
def minI : List Int → Option Int
  | [] => none
  | a :: r => some (r.foldl (fun m x => if x < m then x else m) a)
def minL : List (List Int) → Option (List Int)
  | [] => none
  | a :: r => some (r.foldl (fun m x => if lexLt x m = true then x else m) a)
def cMin (ds : List D) (G : Gp) (Q : DK) : Prop := match ds with
  | [x] => (∃ ns m, itemsOf x G = some (ns.map D.int) ∧ minI ns = some m ∧ Q (.int m) G) ∨ ∃ nss m, itemsOf x G = some (nss.map tI) ∧ minL nss = some m ∧ Q (tI m) G
  | _ => False
def dDic : TE2 := fun _ _ G Q => dNew G (.dic []) Q

/-! ### for proofs -/
def GLe (G G' : Gp) : Prop := ∀ a o, G a = some o → G' a = some o
theorem GLe.refl (G : Gp) : GLe G G := fun _ _ h => h
theorem GLe.trans {G G1 G2 : Gp} (a : GLe G G1) (b : GLe G1 G2) : GLe G G2 := fun c o h => b c o (a c o h)
theorem GLe.new {G : Gp} {p : Nat} {o : GO} (h : G p = none) : GLe G (updG G p o) := fun a ob e => by
  by_cases ha : a = p
  · subst ha; rw [h] at e; cases e
  · rw [updG_ne ha]; exact e
theorem GLe.free {G G' : Gp} {p : Nat} (l : GLe G G') (h : G' p = none) : G p = none := by
  cases q : G p with
  | none => rfl
  | some o => rw [l p o q] at h; cases h
/-- a thing that was not there at first is changed -/
theorem GLe.put {G G' : Gp} {p : Nat} {o : GO} (l : GLe G G') (h : G p = none) : GLe G (updG G' p o) := fun a ob e => by
  by_cases ha : a = p
  · subst ha; rw [h] at e; cases e
  · rw [updG_ne ha]; exact l a ob e
def ends (Q : DK) : Ends2 := ⟨fun _ G => Q .non G, Q, fun _ _ => False, fun _ _ => False⟩
def start2 (n : Nat) (ds : List D) : St2 := ds.map some ++ List.replicate (n - ds.length) none

def iAt (x : D) (G1 : Gp) (R : List D → (Gp → Prop) → Gp → Prop) : Prop := match x with
  | .tup ds => R ds (fun _ => True) G1
  | .rol ds => R ds (fun _ => True) G1
  | .ref p => (match G1 p with
    | some (.lst ds) => R ds (fun G2 => G2 p = some (.lst ds)) G1
    | _ => False)
  | _ => False
def partAt (x : D) (G1 : Gp) (Q : Option Int → Gp → Prop) : Prop := match x with
  | .int i => Q (some i) G1
  | _ => False
def truAt (x : D) (G1 : Gp) (Q : Bool → Gp → Prop) : Prop := match tru x G1 with
  | some b => Q b G1
  | none => False
def rngAt (x : D) (G1 : Gp) (R : List D → (Gp → Prop) → Gp → Prop) : Prop := match x with
  | .int n => -(2 ^ 62) ≤ n ∧ n < 2 ^ 62 ∧ R (rangeD 0 n.toNat) (fun _ => True) G1
  | _ => False
def isAt (C : String) (x : D) (G1 : Gp) (Q : DK) : Prop := match isI C x G1 with
  | some b => Q (.bl b) G1
  | none => False

/-! ### the operations at values that are known -/
theorem rAdd_int {i j : Int} {G : Gp} {Q : DK} : rAdd (.int i) (.int j) G Q = Q (.int (i + j)) G := rfl
theorem rAdd_tup {a b : List D} {G : Gp} {Q : DK} : rAdd (.tup a) (.tup b) G Q = (a ≠ [] ∧ a.length + b.length ≤ SZ ∧ Q (.tup (a ++ b)) G) := rfl
theorem rAdd_str {a b : Str} {G : Gp} {Q : DK} : rAdd (.str a) (.str b) G Q = (a.length + b.length ≤ SZ ∧ Q (.str (a ++ b)) G) := rfl
theorem rAdd_lst {a b : Nat} {xs ys : List D} {G : Gp} {Q : DK} (h1 : G a = some (.lst xs)) (h2 : G b = some (.lst ys)) : rAdd (.ref a) (.ref b) G Q = (xs.length + ys.length ≤ SZ ∧ dNew G (.lst (xs ++ ys)) Q) := by
  unfold rAdd addL lstOf; simp only [h1, h2]
theorem rSub_int {i j : Int} {G : Gp} {Q : DK} : rSub (.int i) (.int j) G Q = Q (.int (i - j)) G := rfl
theorem rMul_int {i j : Int} {G : Gp} {Q : DK} : rMul (.int i) (.int j) G Q = (MulOk i j ∧ Q (.int (i * j)) G) := rfl
theorem rMod_int {i j : Int} {G : Gp} {Q : DK} : rMod (.int i) (.int j) G Q = (0 < j ∧ Q (.int (i % j)) G) := rfl
theorem rFdiv_int {i j : Int} {G : Gp} {Q : DK} : rFdiv (.int i) (.int j) G Q = (0 < j ∧ j < 2 ^ 30 ∧ Q (.int (i / j)) G) := rfl
theorem rNeg_int {i : Int} {G : Gp} {Q : DK} : rNeg (.int i) G Q = Q (.int (-i)) G := rfl
theorem rLt_int {i j : Int} {G : Gp} {Q : DK} : rLt (.int i) (.int j) G Q = Q (.bl (decide (i < j))) G := rfl
theorem rLe_int {i j : Int} {G : Gp} {Q : DK} : rLe (.int i) (.int j) G Q = Q (.bl (decide (i ≤ j))) G := rfl
theorem rGt_int {i j : Int} {G : Gp} {Q : DK} : rGt (.int i) (.int j) G Q = Q (.bl (decide (i > j))) G := rfl
theorem rGe_int {i j : Int} {G : Gp} {Q : DK} : rGe (.int i) (.int j) G Q = Q (.bl (decide (i ≥ j))) G := rfl
theorem rIx_tup {ds : List D} {i : Int} {d : D} {G : Gp} {Q : DK} (h : atI ds i = some d) : rIx (.tup ds) (.int i) G Q = Q d G := by unfold rIx; simp only [h]
theorem rIx_rol {ds : List D} {i : Int} {d : D} {G : Gp} {Q : DK} (h : atI ds i = some d) : rIx (.rol ds) (.int i) G Q = Q d G := by unfold rIx; simp only [h]
theorem rIx_lst {a : Nat} {ds : List D} {i : Int} {d : D} {G : Gp} {Q : DK} (h1 : G a = some (.lst ds)) (h : atI ds i = some d) : rIx (.ref a) (.int i) G Q = Q d G := by unfold rIx; simp only [h1, h]
theorem rIx_dic {a : Nat} {kvs : List (D × D)} {k d : D} {G : Gp} {Q : DK} (h1 : G a = some (.dic kvs)) (h0 : kindOk kvs k = true) (h : look kvs k = some d) : rIx (.ref a) k G Q = Q d G := by unfold rIx; simp only [h1, h, h0, true_and]
theorem rSl_tup {ds : List D} {lo hi : Option Int} {G : Gp} {Q : DK} : rSl (.tup ds) lo hi G Q = (¬ (sIx ds.length 0 lo = 0 ∧ sIx ds.length ds.length hi = ds.length) ∧ Q (.tup (cut ds lo hi)) G) := rfl
theorem rSl_rol {ds : List D} {lo hi : Option Int} {G : Gp} {Q : DK} : rSl (.rol ds) lo hi G Q = dNew G (.lst (cut ds lo hi)) Q := rfl
theorem rSl_lst {a : Nat} {ds : List D} {lo hi : Option Int} {G : Gp} {Q : DK} (h : G a = some (.lst ds)) : rSl (.ref a) lo hi G Q = dNew G (.lst (cut ds lo hi)) Q := by unfold rSl; simp only [h]
theorem cLen_rol {ds : List D} {G : Gp} {Q : DK} : cLen [.rol ds] G Q = Q (.int (ds.length : Int)) G := rfl
theorem cLen_tup {ds : List D} {G : Gp} {Q : DK} : cLen [.tup ds] G Q = Q (.int (ds.length : Int)) G := rfl
theorem cLen_lst {a : Nat} {ds : List D} {G : Gp} {Q : DK} (h : G a = some (.lst ds)) : cLen [.ref a] G Q = Q (.int (ds.length : Int)) G := by unfold cLen lenOf; simp only [h]
theorem cList_lst {a : Nat} {ds : List D} {G : Gp} {Q : DK} (h : G a = some (.lst ds)) : cList [.ref a] G Q = dNew G (.lst ds) Q := by unfold cList itemsOf; simp only [h]
theorem mAppend_lst {a : Nat} {ds : List D} {d : D} {G : Gp} {Q : DK} (h : G a = some (.lst ds)) : mAppend (.ref a) [d] G Q = (ds.length < SZ ∧ Q .non (updG G a (.lst (ds ++ [d])))) := by unfold mAppend; simp only [h]
theorem mExtend_lst {a b : Nat} {xs ys : List D} {G : Gp} {Q : DK} (h1 : G a = some (.lst xs)) (h2 : G b = some (.lst ys)) : mExtend (.ref a) [.ref b] G Q = (xs.length + ys.length ≤ SZ ∧ Q .non (updG G a (.lst (xs ++ ys)))) := by unfold mExtend lstOf; simp only [h1, h2]
theorem mInsert_lst {a : Nat} {xs : List D} {i : Int} {d : D} {G : Gp} {Q : DK} (h : G a = some (.lst xs)) : mInsert (.ref a) [.int i, d] G Q = (0 ≤ i ∧ i ≤ xs.length ∧ xs.length < SZ ∧ Q .non (updG G a (.lst (xs.take i.toNat ++ d :: xs.drop i.toNat)))) := by unfold mInsert; simp only [h]
theorem iSeq_at {a : TE2} {E : XK2} {τ : St2} {G : Gp} {R : List D → (Gp → Prop) → Gp → Prop} : iSeq a E τ G R = a E τ G fun x G1 => iAt x G1 R := by
  unfold iSeq iAt; rfl
theorem iAt_rol {ds : List D} {G : Gp} {R : List D → (Gp → Prop) → Gp → Prop} : iAt (.rol ds) G R = R ds (fun _ => True) G := rfl
theorem iAt_tup {ds : List D} {G : Gp} {R : List D → (Gp → Prop) → Gp → Prop} : iAt (.tup ds) G R = R ds (fun _ => True) G := rfl
theorem iAt_lst {a : Nat} {ds : List D} {G : Gp} {R : List D → (Gp → Prop) → Gp → Prop} (h : G a = some (.lst ds)) : iAt (.ref a) G R = R ds (fun G2 => G2 a = some (.lst ds)) G := by unfold iAt; simp only [h]
theorem dPart_at {t : TE2} {E : XK2} {τ : St2} {G : Gp} {Q : Option Int → Gp → Prop} : dPart t E τ G Q = t E τ G fun x G1 => partAt x G1 Q := rfl
theorem partAt_int {i : Int} {G : Gp} {Q : Option Int → Gp → Prop} : partAt (.int i) G Q = Q (some i) G := rfl
theorem dTru_at {a : TE2} {E : XK2} {τ : St2} {G : Gp} {Q : Bool → Gp → Prop} : dTru a E τ G Q = a E τ G fun x G1 => truAt x G1 Q := rfl
theorem truAt_bl {b : Bool} {G : Gp} {Q : Bool → Gp → Prop} : truAt (.bl b) G Q = Q b G := rfl
theorem truAt_lst {a : Nat} {ds : List D} {G : Gp} {Q : Bool → Gp → Prop} (h : G a = some (.lst ds)) : truAt (.ref a) G Q = Q (!ds.isEmpty) G := by unfold truAt tru; simp only [h]
theorem iRng1_at {a : TE2} {E : XK2} {τ : St2} {G : Gp} {R : List D → (Gp → Prop) → Gp → Prop} : iRng1 a E τ G R = a E τ G fun x G1 => rngAt x G1 R := rfl
theorem rngAt_int {n : Int} {G : Gp} {R : List D → (Gp → Prop) → Gp → Prop} : rngAt (.int n) G R = (-(2 ^ 62) ≤ n ∧ n < 2 ^ 62 ∧ R (rangeD 0 n.toNat) (fun _ => True) G) := rfl
theorem dIsi_at {C : String} {a : TE2} {E : XK2} {τ : St2} {G : Gp} {Q : DK} : dIsi C a E τ G Q = a E τ G fun x G1 => isAt C x G1 Q := rfl
theorem isAt_int {C : String} {i : Int} {G : Gp} {Q : DK} : isAt C (.int i) G Q = Q (.bl (C == "int")) G := rfl
theorem isAt_tup {C : String} {ds : List D} {G : Gp} {Q : DK} : isAt C (.tup ds) G Q = Q (.bl (C == "tuple")) G := rfl
theorem isAt_lst {C : String} {a : Nat} {ds : List D} {G : Gp} {Q : DK} (h : G a = some (.lst ds)) : isAt C (.ref a) G Q = Q (.bl (C == "list")) G := by unfold isAt isI; simp only [h]
theorem dAndV_at {a b : TE2} {E : XK2} {τ : St2} {G : Gp} {Q : DK} : dAndV a b E τ G Q = a E τ G fun x G1 => truAt x G1 fun k G2 => if k = true then b E τ G2 Q else Q x G2 := by
  unfold dAndV truAt
  refine congrArg (a E τ G) ?_
  funext x G1
  cases tru x G1 with
  | none => rfl
  | some k => cases k <;> simp
theorem dOrV_at {a b : TE2} {E : XK2} {τ : St2} {G : Gp} {Q : DK} : dOrV a b E τ G Q = a E τ G fun x G1 => truAt x G1 fun k G2 => if k = true then Q x G2 else b E τ G2 Q := by
  unfold dOrV truAt
  refine congrArg (a E τ G) ?_
  funext x G1
  cases tru x G1 with
  | none => rfl
  | some k => cases k <;> simp
theorem dNotV_at {a : TE2} {E : XK2} {τ : St2} {G : Gp} {Q : DK} : dNotV a E τ G Q = a E τ G fun x G1 => truAt x G1 fun k G2 => Q (.bl (!k)) G2 := rfl
theorem rAdd_ref {a : Nat} {y : D} {G : Gp} {Q : DK} : rAdd (.ref a) y G Q = addL (.ref a) y G Q := by cases y <;> rfl
theorem rAdd_rol {a : List D} {y : D} {G : Gp} {Q : DK} : rAdd (.rol a) y G Q = addL (.rol a) y G Q := by cases y <;> rfl
theorem rSl_ref {a : Nat} {lo hi : Option Int} {G : Gp} {Q : DK} : rSl (.ref a) lo hi G Q = (match G a with
    | some (.lst ds) => dNew G (.lst (cut ds lo hi)) Q
    | _ => False) := rfl
theorem rIx_ref {a : Nat} {k : D} {G : Gp} {Q : DK} : rIx (.ref a) k G Q = (match G a with
    | some (.lst ds) => (match k with
      | .int i => (match atI ds i with
        | some d => Q d G
        | none => False)
      | _ => False)
    | some (.dic kvs) => kindOk kvs k = true ∧ (match look kvs k with
      | some d => Q d G
      | none => False)
    | none => False) := by unfold rIx; cases k <;> rfl
theorem rIx_tupM {ds : List D} {i : Int} {G : Gp} {Q : DK} : rIx (.tup ds) (.int i) G Q = (match atI ds i with
    | some d => Q d G
    | none => False) := rfl
theorem rIx_rolM {ds : List D} {i : Int} {G : Gp} {Q : DK} : rIx (.rol ds) (.int i) G Q = (match atI ds i with
    | some d => Q d G
    | none => False) := rfl
theorem cLen_ref {a : Nat} {G : Gp} {Q : DK} : cLen [.ref a] G Q = (match G a with
    | some (.lst ds) => Q (.int (ds.length : Int)) G
    | some (.dic ds) => (ds.all fun p => keyOk1 p.1) = true ∧ Q (.int (ds.length : Int)) G
    | none => False) := by
  unfold cLen lenOf
  cases h : G a with
  | none => simp only [h]
  | some g =>
    cases g with
    | lst ds => simp only [h]
    | dic ds =>
      simp only [h]
      by_cases z : (ds.all fun p => keyOk1 p.1) = true
      · simp only [z, if_true, true_and]
      · simp only [z, if_false, false_and, Bool.false_eq_true]
theorem cList_ref {a : Nat} {G : Gp} {Q : DK} : cList [.ref a] G Q = (match G a with
    | some (.lst ds) => dNew G (.lst ds) Q
    | _ => False) := by
  unfold cList itemsOf
  cases h : G a with
  | none => simp only [h]
  | some g => cases g <;> simp only [h]
theorem mAppend_ref {a : Nat} {d : D} {G : Gp} {Q : DK} : mAppend (.ref a) [d] G Q = (match G a with
    | some (.lst xs) => xs.length < SZ ∧ Q .non (updG G a (.lst (xs ++ [d])))
    | _ => False) := rfl
theorem mExtend_ref {a : Nat} {y : D} {G : Gp} {Q : DK} : mExtend (.ref a) [y] G Q = (match G a, lstOf y G with
    | some (.lst xs), some ys => xs.length + ys.length ≤ SZ ∧ Q .non (updG G a (.lst (xs ++ ys)))
    | _, _ => False) := rfl
theorem mInsert_ref {a : Nat} {i : Int} {d : D} {G : Gp} {Q : DK} : mInsert (.ref a) [.int i, d] G Q = (match G a with
    | some (.lst xs) => 0 ≤ i ∧ i ≤ xs.length ∧ xs.length < SZ ∧ Q .non (updG G a (.lst (xs.take i.toNat ++ d :: xs.drop i.toNat)))
    | _ => False) := rfl
theorem mSetdefault_ref {a : Nat} {k d : D} {G : Gp} {Q : DK} : mSetdefault (.ref a) [k, d] G Q = (match G a with
    | some (.dic kvs) => kindOk kvs k = true ∧ keyOk1 k = true ∧ (match look kvs k with
      | some v => Q v G
      | none => kvs.length < SZ ∧ Q d (updG G a (.dic (put kvs k d))))
    | _ => False) := rfl
theorem iAt_ref {p : Nat} {G : Gp} {R : List D → (Gp → Prop) → Gp → Prop} : iAt (.ref p) G R = (match G p with
    | some (.lst ds) => R ds (fun G2 => G2 p = some (.lst ds)) G
    | _ => False) := rfl
theorem truAt_ref {p : Nat} {G : Gp} {Q : Bool → Gp → Prop} : truAt (.ref p) G Q = (match G p with
    | some (.lst ds) => Q (!ds.isEmpty) G
    | some (.dic ds) => (ds.all fun p => keyOk1 p.1) = true ∧ Q (!ds.isEmpty) G
    | none => False) := by
  unfold truAt tru
  cases h : G p with
  | none => simp only [h]
  | some g =>
    cases g with
    | lst ds => simp only [h]
    | dic ds =>
      simp only [h]
      by_cases z : (ds.all fun p => keyOk1 p.1) = true
      · simp only [z, if_true, true_and]
      · simp only [z, if_false, false_and, Bool.false_eq_true]
theorem isAt_ref {C : String} {p : Nat} {G : Gp} {Q : DK} : isAt C (.ref p) G Q = (match G p with
    | some (.lst _) => Q (.bl (C == "list")) G
    | some (.dic _) => Q (.bl (C == "dict")) G
    | none => False) := by
  unfold isAt isI
  cases h : G p with
  | none => simp only [h]
  | some g => cases g <;> simp only [h]
theorem isAt_bl {C : String} {b : Bool} {G : Gp} {Q : DK} : isAt C (.bl b) G Q = Q (.bl (C == "bool" || C == "int")) G := rfl
theorem tyL_ref {a : Nat} {G : Gp} : tyL (.ref a) G = (match G a with
    | some (.lst _) => True
    | _ => False) := rfl
theorem tyC_ref {a : Nat} {G : Gp} : tyC (.ref a) G = (match G a with
    | some (.dic _) => True
    | _ => False) := rfl
theorem tyL_rol {ds : List D} {G : Gp} : tyL (.rol ds) G = True := rfl
theorem tyS_str {x : Str} {G : Gp} : tyS (.str x) G = True := rfl
end K2

end
section
set_option autoImplicit false
set_option linter.all false
namespace K2
open PySem (Str)

/-! ### lists that are no longer changed are told by value; things that nobody asks are forgotten -/
def delG (R : Nat → Bool) (G : Gp) : Gp := fun a => if R a = true then none else G a
mutual
inductive Fz (G : Gp) (R : Nat → Bool) : D → D → Prop
  | same (d : D) : Fz G R d d
  | tup {ds ss : List D} : Fzs G R ds ss → Fz G R (.tup ds) (.tup ss)
  | rol {ds ss : List D} : Fzs G R ds ss → Fz G R (.rol ds) (.rol ss)
  | ref {a : Nat} {ds ss : List D} : G a = some (.lst ds) → R a = true → Fzs G R ds ss → Fz G R (.ref a) (.rol ss)
inductive Fzs (G : Gp) (R : Nat → Bool) : List D → List D → Prop
  | nil : Fzs G R [] []
  | cons {d s : D} {ds ss : List D} : Fz G R d s → Fzs G R ds ss → Fzs G R (d :: ds) (s :: ss)
end
def FzK (G : Gp) (x : D) (Q : DK) : Prop := ∃ (R : Nat → Bool) (t : D), Fz G R x t ∧ Q t (delG R G)
def dFz (e : TE2) : TE2 := fun E τ G Q => e E τ G fun x G1 => FzK G1 x Q
/-- behind a statement the name i is told by value -/
def dFzV (i : Nat) (t : TS2) : TS2 := fun E K τ G => t E { K with nx := fun τ1 G1 => match τ1[i]? with
  | some (some d) => FzK G1 d fun t G2 => K.nx (τ1.set i (some t)) G2
  | _ => False } τ G

theorem Fzs.same {G : Gp} {R : Nat → Bool} : ∀ (ds : List D), Fzs G R ds ds
  | [] => .nil
  | d :: ds => .cons (.same d) (Fzs.same ds)

/-- what was there stays, new things are forgotten -/
theorem delG_new {G G1 : Gp} (l : GLe G G1) : delG (fun a => (G a).isNone) G1 = G := by
  funext a
  unfold delG
  cases h : G a with
  | none => simp [h]
  | some o => simp [l a o h, h]
theorem delG_new1 {G G1 : Gp} {p : Nat} {o : GO} (l : GLe G G1) (hp : G p = none) (h1 : G1 p = some o) : delG (fun a => (G a).isNone && decide (a ≠ p)) G1 = updG G p o := by
  funext a
  unfold delG updG
  by_cases ha : a = p
  · subst ha; simp [h1]
  · cases h : G a with
    | none => simp [ha, h]
    | some o => simp [l a o h, ha, h]
theorem fz_id {G : Gp} {d : D} {Q : DK} (q : Q d G) : FzK G d Q := ⟨fun _ => false, d, .same d, by
  have e : delG (fun _ => false) G = G := by funext a; simp [delG]
  rw [e]; exact q⟩
/-- an end: the value as it is, nothing new -/
theorem fz_drop {G G1 : Gp} {d : D} {Q : DK} (l : GLe G G1) (q : Q d G) : FzK G1 d Q := ⟨_, d, .same d, by rw [delG_new l]; exact q⟩
/-- an end: one new list -/
theorem fz_one {G G1 : Gp} {p : Nat} {o : GO} {Q : DK} (l : GLe G G1) (hp : G p = none) (h1 : G1 p = some o) (q : Q (.ref p) (updG G p o)) : FzK G1 (.ref p) Q :=
  ⟨_, .ref p, .same _, by rw [delG_new1 l hp h1]; exact q⟩
/-- an end: a list by value -/
theorem fz_rol {G G1 : Gp} {p : Nat} {ds ss : List D} {Q : DK} (l : GLe G G1) (hp : G p = none) (h1 : G1 p = some (.lst ds)) (hs : Fzs G1 (fun a => (G a).isNone) ds ss) (q : Q (.rol ss) G) : FzK G1 (.ref p) Q :=
  ⟨_, .rol ss, .ref h1 (by simp [hp]) hs, by rw [delG_new l]; exact q⟩
theorem fz_all {G G1 : Gp} {d t : D} {Q : DK} (l : GLe G G1) (hs : Fz G1 (fun a => (G a).isNone) d t) (q : Q t G) : FzK G1 d Q :=
  ⟨_, t, hs, by rw [delG_new l]; exact q⟩

/-- law(script) is True for every script of at most 63 ints -/
def spLaw : Sp2 := fun ds G Q _ => ∃ ns : List Int, ds = [.rol (ns.map D.int)] ∧ ns.length ≤ 63 ∧ (∀ a, G a = none) ∧ ∀ G', Q (.bl true) G'
/-! ### a statement, then the others -/
theorem seq_by {a b : TS2} {E : XK2} {K : Ends2} {τ : St2} {G : Gp} (P : St2 → Gp → Prop) (h1 : ∀ N, (∀ τ G, P τ G → N τ G) → a E { K with nx := N } τ G) (h2 : ∀ τ G, P τ G → b E K τ G) : dSeq a b E K τ G := h1 (b E K) h2
theorem seq_step {a b : TS2} {E : XK2} {K : Ends2} {τ : St2} {G : Gp} : dSeq a b E K τ G = a E { K with nx := b E K } τ G := rfl
theorem seq_asg {a : TE2} {g : TG2} {b : TS2} {E : XK2} {K : Ends2} {τ : St2} {G : Gp} : dSeq (dAsg a g) b E K τ G = dAsg a g E { K with nx := b E K } τ G := rfl
theorem seq_expr {a : TE2} {b : TS2} {E : XK2} {K : Ends2} {τ : St2} {G : Gp} : dSeq (dExpr a) b E K τ G = dExpr a E { K with nx := b E K } τ G := rfl

/-! ### loops -/
theorem for_by {g : TG2} {body : TS2} {ok : Gp → Prop} {ds : List D} {E : XK2} {K : Ends2} {τ : St2} {G : Gp} (I : List D → St2 → Gp → Prop)
    (h0 : I [] τ G) (hok : ∀ pre τ G, I pre τ G → ok G) 
    (step : ∀ (pre : List D) (d : D) (post : List D) τ G (N : St2 → Gp → Prop), ds = pre ++ d :: post → I pre τ G → (∀ τ2 G2, I (pre ++ [d]) τ2 G2 → N τ2 G2) →
      g E d τ G fun τ1 G1 => body E { K with nx := N, ct := N, bk := K.nx } τ1 G1)
    (fin : ∀ τ G, I ds τ G → K.nx τ G) : forGo g body ok ds E K τ G := by
  have main : ∀ (post pre : List D) τ G, ds = pre ++ post → I pre τ G → forGo g body ok post E K τ G := by
    intro post
    induction post with
    | nil =>
      intro pre τ G e h
      rw [List.append_nil] at e
      subst e
      exact ⟨hok _ _ _ h, fin _ _ h⟩
    | cons d post ih =>
      intro pre τ G e h
      refine ⟨hok _ _ _ h, ?_⟩
      exact step pre d post τ G _ e h fun τ2 G2 h2 => ih (pre ++ [d]) τ2 G2 (by rw [e, List.append_assoc]; rfl) h2
  exact main ds [] τ G rfl h0
/-- a comprehension -/
theorem comp_by {g : TG2} {c : Option TT2} {e : TE2} {ok : Gp → Prop} {ds : List D} {E : XK2} {τ : St2} {G : Gp} {Q : List D → Gp → Prop} (I : List D → List D → St2 → Gp → Prop)
    (h0 : I [] [] τ G) (hok : ∀ pre acc τ G, I pre acc τ G → ok G)
    (step : ∀ (pre : List D) (d : D) (post acc : List D) τ G (N : St2 → List D → Gp → Prop), ds = pre ++ d :: post → I pre acc τ G → (∀ τ2 acc2 G2, I (pre ++ [d]) acc2 τ2 G2 → N τ2 acc2 G2) →
      g E d τ G fun τ1 G1 => match c with
        | none => e E τ1 G1 fun x G2 => N τ1 (acc ++ [x]) G2
        | some c => c E τ1 G1 fun k G2 => if k = true then e E τ1 G2 fun x G3 => N τ1 (acc ++ [x]) G3 else N τ1 acc G2)
    (fin : ∀ acc τ G, I ds acc τ G → Q acc G) : compGo g c e ok ds E τ G [] Q := by
  have main : ∀ (post pre acc : List D) τ G, ds = pre ++ post → I pre acc τ G → compGo g c e ok post E τ G acc Q := by
    intro post
    induction post with
    | nil =>
      intro pre acc τ G e h
      rw [List.append_nil] at e
      subst e
      exact ⟨hok _ _ _ _ h, fin _ _ _ h⟩
    | cons d post ih =>
      intro pre acc τ G e' h
      refine ⟨hok _ _ _ _ h, ?_⟩
      have := step pre d post acc τ G (fun τ2 acc2 G2 => compGo g c e ok post E τ2 G2 acc2 Q) e' h fun τ2 acc2 G2 h2 => ih (pre ++ [d]) acc2 τ2 G2 (by rw [e', List.append_assoc]; rfl) h2
      cases c with
      | none => exact this
      | some c => exact this
  exact main ds [] [] τ G rfl h0

/-! ### snapshots of plain values -/
theorem Sn.tI {G : Gp} {n : Nat} : ∀ (ns : List Int), Sn G (n + 1) (.tup (ns.map D.int)) (.tup (ns.map D.int))
  | [] => .tnil
  | i :: ns => .tcons (.int i) (Sn.tI ns)
theorem Sn.rI {G : Gp} {n : Nat} : ∀ (ns : List Int), Sn G (n + 1) (.rol (ns.map D.int)) (.rol (ns.map D.int))
  | [] => .rnil
  | i :: ns => .rcons (.int i) (Sn.rI ns)
theorem Sn.rT {G : Gp} {n : Nat} : ∀ (nss : List (List Int)), Sn G (n + 2) (.rol (nss.map K2.tI)) (.rol (nss.map K2.tI))
  | [] => .rnil
  | i :: ns => .rcons (Sn.tI i) (Sn.rT ns)
theorem eqDs_ints : ∀ (a b : List Int), eqDs (a.map D.int) (b.map D.int) = decide (a = b)
  | [], [] => by simp [eqDs]
  | [], b :: bs => by simp [eqDs]
  | a :: as, [] => by simp [eqDs]
  | a :: as, b :: bs => by
    simp only [List.map_cons, eqDs, eqD, eqDs_ints as bs]
    by_cases h : a = b <;> by_cases h2 : as = bs <;> simp [h, h2]
theorem eqD_tI (a b : List Int) : eqD (tI a) (tI b) = decide (a = b) := by
  show eqDs _ _ = _
  exact eqDs_ints a b
theorem eqDs_tIs : ∀ (a b : List (List Int)), eqDs (a.map tI) (b.map tI) = decide (a = b)
  | [], [] => by simp [eqDs]
  | [], b :: bs => by simp [eqDs]
  | a :: as, [] => by simp [eqDs]
  | a :: as, b :: bs => by
    simp only [List.map_cons, eqDs, eqD_tI, eqDs_tIs as bs]
    by_cases h : a = b <;> by_cases h2 : as = bs <;> simp [h, h2]
end K2

end
section
set_option autoImplicit false
set_option linter.all false
set_option maxRecDepth 100000
namespace K2
open PySem (Str)
/-! ### plain data as values -/
structure T2 where
  a : Int
  b : Int
  deriving DecidableEq
structure T3 where
  a : Int
  b : Int
  c : Int
  deriving DecidableEq
class Enc (α : Type) [DecidableEq α] where
  enc : α → D
  dep : Nat
  eqv : ∀ a b, eqD (enc a) (enc b) = decide (a = b)
  sn : ∀ (G : Gp) (n : Nat) (a : α), dep ≤ n → Sn G n (enc a) (enc a)
open Enc (enc)
instance : Enc Int where
  enc := D.int
  dep := 0
  eqv := fun a b => by simp only [eqD]; by_cases h : a = b <;> simp [h]
  sn := fun G n a _ => .int a
instance : Enc Bool where
  enc := D.bl
  dep := 0
  eqv := fun a b => by simp only [eqD]; by_cases h : a = b <;> simp [h]
  sn := fun G n a _ => .bl a
instance : Enc T2 where
  enc := fun t => .tup [.int t.a, .int t.b]
  dep := 1
  eqv := fun ⟨a, b⟩ ⟨c, d⟩ => by
    simp only [eqD, eqDs, T2.mk.injEq]; by_cases h : a = c <;> by_cases h2 : b = d <;> simp [h, h2]
  sn := fun G n t h => by
    obtain ⟨m, rfl⟩ : ∃ m, n = m + 1 := ⟨n - 1, by omega⟩
    exact .tcons (.int _) (.tcons (.int _) .tnil)
instance : Enc T3 where
  enc := fun t => .tup [.int t.a, .int t.b, .int t.c]
  dep := 1
  eqv := fun ⟨a, b, e⟩ ⟨c, d, f⟩ => by
    simp only [eqD, eqDs, T3.mk.injEq]; by_cases h : a = c <;> by_cases h2 : b = d <;> by_cases h3 : e = f <;> simp [h, h2, h3]
  sn := fun G n t h => by
    obtain ⟨m, rfl⟩ : ∃ m, n = m + 1 := ⟨n - 1, by omega⟩
    exact .tcons (.int _) (.tcons (.int _) (.tcons (.int _) .tnil))
instance {α β : Type} [DecidableEq α] [DecidableEq β] [Enc α] [Enc β] : Enc (α × β) where
  enc := fun t => .tup [enc t.1, enc t.2]
  dep := max (Enc.dep α) (Enc.dep β) + 1
  eqv := fun ⟨a, b⟩ ⟨c, d⟩ => by
    simp only [eqD, eqDs, Enc.eqv, Prod.mk.injEq]; by_cases h : a = c <;> by_cases h2 : b = d <;> simp [h, h2]
  sn := fun G n t h => by
    obtain ⟨m, rfl⟩ : ∃ m, n = m + 1 := ⟨n - 1, by omega⟩
    exact .tcons (Enc.sn _ _ _ (by omega)) (.tcons (Enc.sn _ _ _ (by omega)) .tnil)
theorem eqDs_enc {α : Type} [DecidableEq α] [Enc α] : ∀ (a b : List α), eqDs (a.map enc) (b.map enc) = decide (a = b)
  | [], [] => by simp [eqDs]
  | [], b :: bs => by simp [eqDs]
  | a :: as, [] => by simp [eqDs]
  | a :: as, b :: bs => by
    simp only [List.map_cons, eqDs, Enc.eqv, eqDs_enc as bs]
    by_cases h : a = b <;> by_cases h2 : as = bs <;> simp [h, h2]
theorem sn_rol {α : Type} [DecidableEq α] [Enc α] (G : Gp) (n : Nat) (h : Enc.dep α ≤ n) : ∀ (xs : List α), Sn G (n + 1) (.rol (xs.map enc)) (.rol (xs.map enc))
  | [] => .rnil
  | a :: as => .rcons (Enc.sn _ _ _ h) (sn_rol G n h as)
instance {α : Type} [DecidableEq α] [Enc α] : Enc (List α) where
  enc := fun xs => .rol (xs.map enc)
  dep := Enc.dep α + 1
  eqv := fun a b => by
    show eqDs _ _ = _
    exact eqDs_enc a b
  sn := fun G n t h => by
    obtain ⟨m, rfl⟩ : ∃ m, n = m + 1 := ⟨n - 1, by omega⟩
    exact sn_rol G m (by omega) t
section
variable {α : Type} [DecidableEq α] [Enc α]
theorem any_enc (L : List α) (t : α) : (L.map enc).any (eqD · (enc t)) = decide (t ∈ L) := by
  induction L with
  | nil => simp
  | cons a r ih =>
    simp only [List.map_cons, List.any_cons, Enc.eqv, ih, List.mem_cons]
    by_cases h : a = t
    · simp [h]
    · have h' : ¬ t = a := fun z => h z.symm
      by_cases h2 : t ∈ r <;> simp [h, h', h2]
theorem findIdx_enc (L : List α) {m : α} (h : m ∈ L) : (L.map enc).findIdx? (eqD · (enc m)) = some (L.idxOf m) := by
  induction L with
  | nil => cases h
  | cons a r ih =>
    rw [List.map_cons, List.findIdx?_cons, Enc.eqv, List.idxOf_cons]
    by_cases e : a = m
    · simp [e]
    · have hm : m ∈ r := by rcases List.mem_cons.mp h with z | z; exact absurd z.symm e; exact z
      rw [ih hm]
      have z : (a == m) = false := by simpa using e
      simp [e, z]
theorem enc_inj {a b : α} (h : (enc a : D) = enc b) : a = b := by
  have := Enc.eqv a b
  rw [h, Enc.eqv b b] at this
  simpa using this.symm
end
/-! ### dicts -/
section
variable {κ α : Type} [DecidableEq κ] [Enc κ] [DecidableEq α] [Enc α]
def encKV (l : List (κ × α)) : List (D × D) := l.map fun p => (enc p.1, enc p.2)
def aget (l : List (κ × α)) (k : κ) : Option α := (l.find? fun p => p.1 = k).map (·.2)
def aput (l : List (κ × α)) (k : κ) (v : α) : List (κ × α) := if (l.any fun p => p.1 = k) = true then l.map (fun p => if p.1 = k then (p.1, v) else p) else l ++ [(k, v)]
theorem look_enc (l : List (κ × α)) (k : κ) : look (encKV l) (enc k) = (aget l k).map enc := by
  unfold look aget encKV
  induction l with
  | nil => rfl
  | cons p r ih =>
    rw [List.map_cons, List.find?_cons, List.find?_cons]
    simp only [Enc.eqv]
    by_cases h : p.1 = k
    · simp [h]
    · simp only [h, decide_false]; exact ih
theorem put_enc (l : List (κ × α)) (k : κ) (v : α) : put (encKV l) (enc k) (enc v) = encKV (aput l k v) := by
  unfold put aput
  have e : ((encKV l).any fun p => eqD p.1 (enc k)) = l.any fun p => decide (p.1 = k) := by
    unfold encKV; rw [List.any_map]; congr 1; funext p; exact Enc.eqv _ _
  rw [e]
  split
  · unfold encKV; rw [List.map_map, List.map_map]
    refine List.map_congr_left fun p _ => ?_
    simp only [Function.comp, Enc.eqv, decide_eq_true_eq]
    split <;> rfl
  · unfold encKV; rw [List.map_append]; rfl
theorem aget_aput (l : List (κ × α)) (k j : κ) (v : α) : aget (aput l k v) j = if k = j then some v else aget l j := by
  unfold aput
  split
  · rename_i h
    unfold aget
    induction l with
    | nil => simp at h
    | cons p r ih =>
      rw [List.map_cons, List.find?_cons, List.find?_cons]
      by_cases h1 : p.1 = k
      · rw [if_pos h1]
        by_cases h2 : k = j
        · simp [h1, h2]
        · have : ¬ p.1 = j := fun z => h2 (h1.symm.trans z)
          simp only [this, decide_false, h2, if_false]
          by_cases h3 : (r.any fun p => decide (p.1 = k)) = true
          · have := ih h3
            rw [if_neg h2] at this
            exact this
          · congr 1
            have : r.map (fun p => if p.1 = k then (p.1, v) else p) = r := by
              conv => rhs; rw [← List.map_id r]
              refine List.map_congr_left fun q hq => ?_
              rw [if_neg]; rfl
              intro z; exact h3 (List.any_eq_true.mpr ⟨q, hq, by simpa using z⟩)
            rw [this]
      · rw [if_neg h1]
        have h3 : (r.any fun p => decide (p.1 = k)) = true := by simpa [h1] using h
        by_cases h2 : p.1 = j
        · have : ¬ k = j := fun z => h1 (h2.trans z.symm)
          simp [h2, this]
        · simp only [h2, decide_false]; exact ih h3
  · rename_i h
    unfold aget
    rw [List.find?_append]
    by_cases h2 : k = j
    · subst h2
      have : l.find? (fun p => decide (p.1 = k)) = none := by
        rw [List.find?_eq_none]
        intro p hp z
        exact h (List.any_eq_true.mpr ⟨p, hp, z⟩)
      rw [this]; simp
    · simp [h2]
theorem aput_len (l : List (κ × α)) (k : κ) (v : α) : (aput l k v).length ≤ l.length + 1 := by
  unfold aput; split <;> simp
end
/-- keys of a dict: all of one kind -/
class EncKey (κ : Type) [DecidableEq κ] [Enc κ] where
  ok : (∀ k : κ, keyOk1 (enc k) = true) ∨ ∀ k : κ, keyOkT (enc k) = true
instance : EncKey Int := ⟨.inl fun _ => rfl⟩
instance : EncKey T2 := ⟨.inr fun _ => rfl⟩
instance : EncKey T3 := ⟨.inr fun _ => rfl⟩
theorem kindOk_enc {κ α : Type} [DecidableEq κ] [Enc κ] [EncKey κ] [DecidableEq α] [Enc α] (l : List (κ × α)) (k : κ) : kindOk (encKV l) (enc k) = true := by
  unfold kindOk encKV
  rcases EncKey.ok (κ := κ) with h | h
  · rw [Bool.or_eq_true]; left
    rw [h k, Bool.true_and, List.all_map, List.all_eq_true]
    intro p _; exact h p.1
  · rw [Bool.or_eq_true]; right
    rw [h k, Bool.true_and, List.all_map, List.all_eq_true]
    intro p _; exact h p.1
end K2

end
section
set_option autoImplicit false
set_option linter.all false
set_option maxRecDepth 100000
namespace K2
open PySem (Str)
open Enc (enc)
/-! ### order -/
mutual
def ltD : D → D → Bool
  | .int a, .int b => decide (a < b)
  | .tup a, .tup b => ltDs a b
  | .rol a, .rol b => ltDs a b
  | _, _ => false
def ltDs : List D → List D → Bool
  | [], [] => false
  | [], _ :: _ => true
  | _ :: _, [] => false
  | x :: xs, y :: ys => if eqD x y = true then ltDs xs ys else ltD x y
end
/-- what may be put in order: ints; tuples, lists of such, all of one make -/
inductive Shp where
  | int | tup (l : List Shp) | lst (s : Shp)
mutual
def hasS : Shp → D → Bool
  | .int, .int _ => true
  | .tup l, .tup ds => hasSs l ds
  | .lst s, .rol ds => hasSl s ds
  | _, _ => false
def hasSs : List Shp → List D → Bool
  | [], [] => true
  | s :: l, d :: ds => hasS s d && hasSs l ds
  | _, _ => false
def hasSl : Shp → List D → Bool
  | _, [] => true
  | s, d :: ds => hasS s d && hasSl s ds
end
def leD (a b : D) : Bool := !ltD b a
def sortD (ds : List D) : List D := ds.mergeSort leD
def cSorted (ds : List D) (G : Gp) (Q : DK) : Prop := match ds with
  | [x] => ∃ (sh : Shp) (xs : List D), tyL x G ∧ itemsOf x G = some xs ∧ xs.all (hasS sh) = true ∧ xs.length < 64 ∧ dNew G (.lst (sortD xs)) Q
  | _ => False
/-- a linear order -/
class EncOrd (α : Type) [DecidableEq α] [Enc α] where
  lt : α → α → Bool
  shp : Shp
  hass : ∀ a : α, hasS shp (enc a) = true
  ltd : ∀ a b : α, ltD (enc a) (enc b) = lt a b
  irr : ∀ a, lt a a = false
  trans : ∀ a b c, lt a b = true → lt b c = true → lt a c = true
  tot : ∀ a b, lt a b = false → lt b a = false → a = b
instance : EncOrd Int where
  lt := fun a b => decide (a < b)
  shp := .int
  hass := fun _ => rfl
  ltd := fun a b => rfl
  irr := fun a => by simp
  trans := fun a b c h1 h2 => by simp at *; omega
  tot := fun a b h1 h2 => by simp at *; omega
/-- word by word -/
def lexO {α : Type} [DecidableEq α] (lt : α → α → Bool) : List α → List α → Bool
  | [], [] => false
  | [], _ :: _ => true
  | _ :: _, [] => false
  | x :: xs, y :: ys => if x = y then lexO lt xs ys else lt x y
section
variable {α : Type} [DecidableEq α] {lt : α → α → Bool}
theorem lexO_irr : ∀ x : List α, lexO lt x x = false
  | [] => rfl
  | a :: x => by simp only [lexO, if_true]; exact lexO_irr x
theorem lexO_tot (t : ∀ a b, lt a b = false → lt b a = false → a = b) : ∀ (x y : List α), lexO lt x y = false → lexO lt y x = false → x = y
  | [], [], _, _ => rfl
  | [], _ :: _, h, _ => by cases h
  | _ :: _, [], _, h => by cases h
  | a :: x, b :: y, h1, h2 => by
    simp only [lexO] at h1 h2
    by_cases e : a = b
    · subst e
      simp only [if_true] at h1 h2
      rw [lexO_tot t x y h1 h2]
    · rw [if_neg e] at h1
      rw [if_neg (Ne.symm e)] at h2
      exact absurd (t a b h1 h2) e
theorem lexO_trans (ir : ∀ a, lt a a = false) (tr : ∀ a b c, lt a b = true → lt b c = true → lt a c = true) : ∀ (x y z : List α), lexO lt x y = true → lexO lt y z = true → lexO lt x z = true
  | [], [], _, h, _ => by cases h
  | [], _ :: _, [], _, h => by cases h
  | [], _ :: _, _ :: _, _, _ => rfl
  | _ :: _, [], _, h, _ => by cases h
  | _ :: _, _ :: _, [], _, h => by cases h
  | a :: x, b :: y, c :: z, h1, h2 => by
    simp only [lexO] at h1 h2 ⊢
    by_cases e1 : a = b
    · subst e1
      simp only [if_true] at h1
      by_cases e2 : a = c
      · subst e2
        simp only [if_true] at h2 ⊢
        exact lexO_trans ir tr x y z h1 h2
      · rw [if_neg e2] at h2 ⊢; exact h2
    · rw [if_neg e1] at h1
      by_cases e2 : b = c
      · subst e2
        rw [if_neg e1]; exact h1
      · rw [if_neg e2] at h2
        have h3 := tr _ _ _ h1 h2
        rw [if_neg (by rintro rfl; rw [ir] at h3; cases h3)]; exact h3
end
theorem ltDs_enc {α : Type} [DecidableEq α] [Enc α] [EncOrd α] : ∀ (x y : List α), ltDs (x.map enc) (y.map enc) = lexO (EncOrd.lt (α := α)) x y
  | [], [] => rfl
  | [], _ :: _ => rfl
  | _ :: _, [] => rfl
  | a :: x, b :: y => by simp only [List.map_cons, ltDs, lexO, Enc.eqv, ltDs_enc x y, EncOrd.ltd, decide_eq_true_eq]
theorem hasSl_enc {α : Type} [DecidableEq α] [Enc α] [EncOrd α] : ∀ (x : List α), hasSl (EncOrd.shp α) (x.map enc) = true
  | [] => rfl
  | a :: x => by simp only [List.map_cons, hasSl, EncOrd.hass, hasSl_enc x, Bool.and_self]
instance {α : Type} [DecidableEq α] [Enc α] [EncOrd α] : EncOrd (List α) where
  lt := lexO EncOrd.lt
  shp := .lst (EncOrd.shp α)
  hass := fun a => hasSl_enc a
  ltd := fun a b => ltDs_enc a b
  irr := lexO_irr
  trans := lexO_trans EncOrd.irr EncOrd.trans
  tot := lexO_tot EncOrd.tot
def T2.l (t : T2) : List Int := [t.a, t.b]
def T3.l (t : T3) : List Int := [t.a, t.b, t.c]
instance : EncOrd T2 where
  lt := fun x y => lexO (fun a b => decide (a < b)) x.l y.l
  shp := .tup [.int, .int]
  hass := fun _ => rfl
  ltd := fun a b => ltDs_enc a.l b.l
  irr := fun a => lexO_irr _
  trans := fun a b c => lexO_trans (α := Int) EncOrd.irr EncOrd.trans _ _ _
  tot := fun ⟨a, b⟩ ⟨c, d⟩ h1 h2 => by
    have := lexO_tot (α := Int) EncOrd.tot _ _ h1 h2
    simpa [T2.l] using this
instance : EncOrd T3 where
  lt := fun x y => lexO (fun a b => decide (a < b)) x.l y.l
  shp := .tup [.int, .int, .int]
  hass := fun _ => rfl
  ltd := fun a b => ltDs_enc a.l b.l
  irr := fun a => lexO_irr _
  trans := fun a b c => lexO_trans (α := Int) EncOrd.irr EncOrd.trans _ _ _
  tot := fun ⟨a, b, e⟩ ⟨c, d, f⟩ h1 h2 => by
    have := lexO_tot (α := Int) EncOrd.tot _ _ h1 h2
    simpa [T3.l] using this
section
variable {α : Type} [DecidableEq α] [Enc α] [EncOrd α]
def leO (a b : α) : Bool := !EncOrd.lt b a
def srt (xs : List α) : List α := xs.mergeSort leO
theorem sortD_enc (xs : List α) : sortD (xs.map enc) = (srt xs).map enc := by
  unfold sortD srt
  symm
  exact List.map_mergeSort fun a _ b _ => by unfold leO leD; rw [EncOrd.ltd]
theorem leO_trans (a b c : α) (h1 : leO a b = true) (h2 : leO b c = true) : leO a c = true := by
  unfold leO at *
  simp only [Bool.not_eq_true'] at *
  cases h : EncOrd.lt c a with
  | false => rfl
  | true =>
    -- c < a, not b < a, not c < b
    by_cases e : a = b
    · subst e; rw [h] at h2; cases h2
    · have hab : EncOrd.lt a b = true := by
        cases q : EncOrd.lt a b with
        | true => rfl
        | false => exact absurd (EncOrd.tot _ _ q h1) e
      rw [EncOrd.trans _ _ _ h hab] at h2; cases h2
theorem leO_total (a b : α) : (leO a b || leO b a) = true := by
  unfold leO
  cases h : EncOrd.lt b a with
  | false => rfl
  | true =>
    cases h2 : EncOrd.lt a b with
    | false => rfl
    | true => have := EncOrd.trans _ _ _ h h2; rw [EncOrd.irr] at this; cases this
theorem leO_anti (a b : α) (h1 : leO a b = true) (h2 : leO b a = true) : a = b := by
  unfold leO at *
  exact EncOrd.tot a b (by simpa using h2) (by simpa using h1)
theorem srt_perm (xs : List α) : (srt xs).Perm xs := List.mergeSort_perm xs leO
theorem srt_sorted (xs : List α) : (srt xs).Pairwise fun a b => leO a b = true := List.pairwise_mergeSort leO_trans leO_total xs
theorem sorted_unique : ∀ {xs ys : List α}, xs.Perm ys → xs.Pairwise (fun a b => leO a b = true) → ys.Pairwise (fun a b => leO a b = true) → xs = ys := by
  intro xs ys hp h1 h2
  exact List.Perm.eq_of_pairwise (fun a b _ _ h h' => leO_anti a b h h') h1 h2 hp
theorem srt_eq {xs ys : List α} (h : xs.Perm ys) : srt xs = srt ys := sorted_unique (((srt_perm xs).trans h).trans (srt_perm ys).symm) (srt_sorted xs) (srt_sorted ys)
theorem srt_of {xs ys : List α} (h : xs.Perm ys) (hs : ys.Pairwise fun a b => leO a b = true) : srt xs = ys := sorted_unique ((srt_perm xs).trans h) (srt_sorted xs) hs
theorem srt_mem {xs : List α} {x : α} : x ∈ srt xs ↔ x ∈ xs := (srt_perm xs).mem_iff
theorem srt_len (xs : List α) : (srt xs).length = xs.length := (srt_perm xs).length_eq
theorem srt_nodup {xs : List α} (h : xs.Nodup) : (srt xs).Nodup := (srt_perm xs).nodup_iff.mpr h
end
end K2

end
section
set_option autoImplicit false
set_option linter.all false
set_option maxRecDepth 100000
namespace K2
open PySem (Str)
open Enc (enc)
def enumD (k : Nat) : List D → List D
  | [] => []
  | d :: r => .tup [.int (k : Int), d] :: enumD (k + 1) r
theorem enumD_get : ∀ (ds : List D) (k i : Nat), (enumD k ds)[i]? = (ds[i]?).map fun d => D.tup [.int ((k + i : Nat) : Int), d]
  | [], k, i => by simp [enumD]
  | d :: r, k, 0 => by simp [enumD]
  | d :: r, k, i + 1 => by
    rw [enumD, List.getElem?_cons_succ, enumD_get r (k + 1) i, List.getElem?_cons_succ]
    congr 1; funext x; congr 3; omega
theorem enumD_len : ∀ (ds : List D) (k : Nat), (enumD k ds).length = ds.length
  | [], _ => rfl
  | d :: r, k => by rw [enumD, List.length_cons, List.length_cons, enumD_len r]
def iEnumAt (x : D) (G1 : Gp) (R : List D → (Gp → Prop) → Gp → Prop) : Prop := match x with
  | .rol ds => R (enumD 0 ds) (fun _ => True) G1
  | .ref p => (match G1 p with
    | some (.lst ds) => R (enumD 0 ds) (fun G2 => G2 p = some (.lst ds)) G1
    | _ => False)
  | _ => False
def iEnum (a : TE2) : TI2 := fun E τ G R => a E τ G fun x G1 => iEnumAt x G1 R
def one1 (P : D → Gp → Prop) : List D → Gp → Prop
  | [x], G => P x G
  | _, _ => False
def one2 (P : D → D → Gp → Prop) : List D → Gp → Prop
  | [x, y], G => P x y G
  | _, _ => False
/-- two lists side by side -/
def zipD : List D → List D → List D
  | x :: xs, y :: ys => .tup [x, y] :: zipD xs ys
  | _, _ => []
theorem zipD_get : ∀ (xs ys : List D) (i : Nat), (zipD xs ys)[i]? = (xs[i]?).bind fun x => (ys[i]?).map fun y => D.tup [x, y]
  | [], ys, i => by simp [zipD]
  | x :: xs, [], i => by cases h : (x :: xs)[i]? <;> simp [zipD]
  | x :: xs, y :: ys, 0 => by simp [zipD]
  | x :: xs, y :: ys, i + 1 => by rw [zipD, List.getElem?_cons_succ, zipD_get xs ys i, List.getElem?_cons_succ, List.getElem?_cons_succ]
theorem zipD_len : ∀ (xs ys : List D), (zipD xs ys).length = min xs.length ys.length
  | [], ys => by simp [zipD]
  | x :: xs, [] => by simp [zipD]
  | x :: xs, y :: ys => by rw [zipD, List.length_cons, zipD_len xs ys, List.length_cons, List.length_cons]; omega
def lstAt (x : D) (G : Gp) : Option (List D × (Gp → Prop)) := match x with
  | .rol ds => some (ds, fun _ => True)
  | .ref p => (match G p with
    | some (.lst ds) => some (ds, fun G2 => G2 p = some (.lst ds))
    | _ => none)
  | _ => none
def iZipAt (x y : D) (G1 : Gp) (R : List D → (Gp → Prop) → Gp → Prop) : Prop := match lstAt x G1, lstAt y G1 with
  | some (xs, k1), some (ys, k2) => R (zipD xs ys) (fun G2 => k1 G2 ∧ k2 G2) G1
  | _, _ => False
def iZip (a b : TE2) : TI2 := fun E τ G R => a E τ G fun x G1 => b E τ G1 fun y G2 => iZipAt x y G2 R

/-- a dict's keys -/
def iDictAt (x : D) (G1 : Gp) (R : List D → (Gp → Prop) → Gp → Prop) : Prop := match x with
  | .ref p => (match G1 p with
    | some (.dic kvs) => R (kvs.map (·.1)) (fun G2 => G2 p = some (.dic kvs)) G1
    | _ => False)
  | _ => False
def iDict (a : TE2) : TI2 := fun E τ G R => a E τ G fun x G1 => iDictAt x G1 R
/-- list(range(n)) -/
def lrAt (x : D) (G1 : Gp) (Q : DK) : Prop := match x with
  | .int n => n ≤ 1000 ∧ dNew G1 (.lst (rangeD 0 n.toNat)) Q
  | _ => False
def dLRange (a : TE2) : TE2 := fun E τ G Q => a E τ G fun x G1 => lrAt x G1 Q

/-! ### lists, read -/
def IsL (G : Gp) (d : D) (ds : List D) : Prop := d = .rol ds ∨ ∃ a, d = .ref a ∧ G a = some (.lst ds)
theorem IsL.rol {G : Gp} {ds : List D} : IsL G (.rol ds) ds := .inl rfl
theorem IsL.enc {α : Type} [DecidableEq α] [Enc α] {G : Gp} (xs : List α) : IsL G (enc xs) (xs.map enc) := .inl rfl
theorem IsL.ref {G : Gp} {a : Nat} {ds : List D} (h : G a = some (.lst ds)) : IsL G (.ref a) ds := .inr ⟨a, rfl, h⟩
theorem IsL.mono {G G' : Gp} {d : D} {ds : List D} (h : IsL G d ds) (l : GLe G G') : IsL G' d ds := by
  rcases h with h | ⟨a, h, e⟩
  · exact .inl h
  · exact .inr ⟨a, h, l a _ e⟩
theorem iAt_of {G : Gp} {d : D} {ds : List D} {R : List D → (Gp → Prop) → Gp → Prop} (h : IsL G d ds) (k : ∀ ok : Gp → Prop, (∀ G', GLe G G' → ok G') → R ds ok G) : iAt d G R := by
  rcases h with rfl | ⟨a, rfl, e⟩
  · exact k _ fun _ _ => trivial
  · rw [iAt_lst e]; exact k _ fun G' l => l a _ e
theorem iEnumAt_of {G : Gp} {d : D} {ds : List D} {R : List D → (Gp → Prop) → Gp → Prop} (h : IsL G d ds) (k : ∀ ok : Gp → Prop, (∀ G', GLe G G' → ok G') → R (enumD 0 ds) ok G) : iEnumAt d G R := by
  rcases h with rfl | ⟨a, rfl, e⟩
  · exact k _ fun _ _ => trivial
  · unfold iEnumAt; simp only [e]; exact k _ fun G' l => l a _ e
theorem lstAt_of {G : Gp} {d : D} {ds : List D} (h : IsL G d ds) : ∃ ok : Gp → Prop, lstAt d G = some (ds, ok) ∧ ∀ G', GLe G G' → ok G' := by
  rcases h with rfl | ⟨a, rfl, e⟩
  · exact ⟨_, rfl, fun _ _ => trivial⟩
  · unfold lstAt; simp only [e]; exact ⟨_, rfl, fun G' l => l a _ e⟩
theorem iZipAt_of {G : Gp} {d d' : D} {ds ds' : List D} {R : List D → (Gp → Prop) → Gp → Prop} (h : IsL G d ds) (h' : IsL G d' ds') (k : ∀ ok : Gp → Prop, (∀ G', GLe G G' → ok G') → R (zipD ds ds') ok G) : iZipAt d d' G R := by
  obtain ⟨k1, e1, h1⟩ := lstAt_of h
  obtain ⟨k2, e2, h2⟩ := lstAt_of h'
  unfold iZipAt; simp only [e1, e2]
  exact k _ fun G' l => ⟨h1 G' l, h2 G' l⟩
theorem isAt_of {G : Gp} {d : D} {ds : List D} {C : String} {Q : DK} (h : IsL G d ds) (k : Q (.bl (C == "list")) G) : isAt C d G Q := by
  rcases h with rfl | ⟨a, rfl, e⟩
  · exact k
  · rw [isAt_lst e]; exact k
theorem truAt_of {G : Gp} {d : D} {ds : List D} {Q : Bool → Gp → Prop} (h : IsL G d ds) (k : Q (!ds.isEmpty) G) : truAt d G Q := by
  rcases h with rfl | ⟨a, rfl, e⟩
  · exact k
  · rw [truAt_lst e]; exact k
theorem itemsOf_of {G : Gp} {d : D} {ds : List D} (h : IsL G d ds) : itemsOf d G = some ds := by
  rcases h with rfl | ⟨a, rfl, e⟩
  · rfl
  · unfold itemsOf; simp only [e]
theorem tyL_of {G : Gp} {d : D} {ds : List D} (h : IsL G d ds) : tyL d G := by
  rcases h with rfl | ⟨a, rfl, e⟩
  · trivial
  · unfold tyL; simp only [e]
theorem rSl_of {G : Gp} {d : D} {ds : List D} {lo hi : Option Int} {Q : DK} (h : IsL G d ds) (k : dNew G (.lst (cut ds lo hi)) Q) : rSl d lo hi G Q := by
  rcases h with rfl | ⟨a, rfl, e⟩
  · exact k
  · rw [rSl_lst e]; exact k
theorem cLen_of {G : Gp} {d : D} {ds : List D} {Q : DK} (h : IsL G d ds) (k : Q (.int (ds.length : Int)) G) : cLen [d] G Q := by
  rcases h with rfl | ⟨a, rfl, e⟩
  · exact k
  · rw [cLen_lst e]; exact k
theorem cList_of {G : Gp} {d : D} {ds : List D} {Q : DK} (h : IsL G d ds) (k : dNew G (.lst ds) Q) : cList [d] G Q := by
  unfold cList; simp only [itemsOf_of h]; exact k
theorem cSorted_of {α : Type} [DecidableEq α] [Enc α] [EncOrd α] {G : Gp} {d : D} {xs : List α} {Q : DK} (h : IsL G d (xs.map enc)) (hl : xs.length < 64) (k : dNew G (.lst ((srt xs).map enc)) Q) : cSorted [d] G Q :=
  ⟨EncOrd.shp α, xs.map enc, tyL_of h, itemsOf_of h, by rw [List.all_map, List.all_eq_true]; intro x _; exact EncOrd.hass x, by rw [List.length_map]; exact hl, by rw [sortD_enc]; exact k⟩
theorem rIx_of {G : Gp} {d x : D} {ds : List D} {i : Int} {Q : DK} (h : IsL G d ds) (e : atI ds i = some x) (k : Q x G) : rIx d (.int i) G Q := by
  rcases h with rfl | ⟨a, rfl, e2⟩
  · rw [rIx_rol e]; exact k
  · rw [rIx_lst e2 e]; exact k
theorem lstOf_of {G : Gp} {d : D} {ds : List D} (h : IsL G d ds) : lstOf d G = some ds := by
  rcases h with rfl | ⟨a, rfl, e⟩
  · rfl
  · unfold lstOf; simp only [e]
theorem addL_of {G : Gp} {d e : D} {ds es : List D} {Q : DK} (h : IsL G d ds) (h' : IsL G e es) (hz : ds.length + es.length ≤ SZ) (k : dNew G (.lst (ds ++ es)) Q) : addL d e G Q := by
  unfold addL; simp only [lstOf_of h, lstOf_of h']; exact ⟨hz, k⟩
theorem rAdd_of {G : Gp} {d e : D} {ds es : List D} {Q : DK} (h : IsL G d ds) (h' : IsL G e es) (hz : ds.length + es.length ≤ SZ) (k : dNew G (.lst (ds ++ es)) Q) : rAdd d e G Q := by
  have := addL_of h h' hz k
  rcases h with rfl | ⟨a, rfl, _⟩
  · rw [rAdd_rol]; exact this
  · rw [rAdd_ref]; exact this
theorem cut_from {α : Type} (xs : List α) (i : Nat) (h : i ≤ xs.length) : cut xs (some (i : Int)) none = xs.drop i := by
  unfold cut sIx
  simp only
  rw [if_neg (by omega), Int.toNat_natCast, Nat.min_eq_left h]
  exact List.take_of_length_le (by rw [List.length_drop]; omega)
theorem cut_to {α : Type} (xs : List α) (i : Nat) (h : i ≤ xs.length) : cut xs none (some (i : Int)) = xs.take i := by
  unfold cut sIx
  simp only
  rw [if_neg (by omega), Int.toNat_natCast, Nat.min_eq_left h]
  simp
theorem cut_map {α β : Type} (f : α → β) (xs : List α) (lo hi : Option Int) : cut (xs.map f) lo hi = (cut xs lo hi).map f := by
  unfold cut; rw [List.length_map, List.map_take, List.map_drop]
theorem atI_nat {α : Type} (xs : List α) {k : Int} (h0 : 0 ≤ k) (h1 : k < xs.length) : atI xs k = some (xs[k.toNat]'(by omega)) := by
  unfold atI ixN
  rw [if_pos h0, if_pos h1]
  show xs[k.toNat]? = _
  exact List.getElem?_eq_getElem (by omega)
theorem rangeD_mem {n : Nat} {pre post : List D} {d : D} (h : rangeD 0 n = pre ++ d :: post) : d = .int (pre.length : Int) ∧ pre.length < n := by
  have hl : pre.length < n := by
    have := congrArg List.length h
    simp [rangeD] at this; omega
  have := congrArg (fun l => l[pre.length]?) h
  simp only [rangeD, List.getElem?_map, List.getElem?_range hl] at this
  rw [List.getElem?_append_right (Nat.le_refl _)] at this
  simp at this
  exact ⟨this.symm, hl⟩
/-! ### what a def promises: a value told by a function of plain data, nothing else seen -/
def spF1 {α β : Type} [DecidableEq α] [Enc α] [DecidableEq β] [Enc β] (pre : α → Prop) (f : α → β) : Sp2 := fun ds G Q _ => ∃ a : α, ds = [enc a] ∧ pre a ∧ Q (enc (f a)) G
def spF2 {α β γ : Type} [DecidableEq α] [Enc α] [DecidableEq β] [Enc β] [DecidableEq γ] [Enc γ] (pre : α → β → Prop) (f : α → β → γ) : Sp2 := fun ds G Q _ => ∃ (a : α) (b : β), ds = [enc a, enc b] ∧ pre a b ∧ Q (enc (f a b)) G
def spF3 {α β γ δ : Type} [DecidableEq α] [Enc α] [DecidableEq β] [Enc β] [DecidableEq γ] [Enc γ] [DecidableEq δ] [Enc δ] (pre : α → β → γ → Prop) (f : α → β → γ → δ) : Sp2 := fun ds G Q _ => ∃ (a : α) (b : β) (c : γ), ds = [enc a, enc b, enc c] ∧ pre a b c ∧ Q (enc (f a b c)) G
end K2

end
section
namespace K2
open PySem PySem.Spec PyProof.Rows L2
set_option autoImplicit false

/-- a list that nobody changes: known to the object, or one of the module's -/
def SqF (K : PySem.W.Frag) (H : Hp) (a : Addr) (xs : List V) : Prop :=
  (∃ o, H a = some (.frz o (.lst xs))) ∨
    ∃ (o : Obj) (its : Array Value) (n : Nat), K.lookup a = some o ∧ o.cls = .type "list" ∧ o.dict = none ∧ o.data = .seq its n ∧ its.size ≤ sizeLine ∧ Vals xs its.toList
theorem SqF.sq {K : PySem.W.Frag} {H : Hp} {a : Addr} {xs : List V} (h : SqF K H a xs) : SqL K H a xs := by
  rcases h with ⟨o, h⟩ | h
  · exact .inl (.inr ⟨o, h⟩)
  · exact .inr h
mutual
inductive RepD (K : PySem.W.Frag) (H : Hp) : V → D → Prop
  | non : RepD K H .non .non
  | bl (b : Bool) : RepD K H (.bl b) (.bl b)
  | int (i : Int) : RepD K H (.int i) (.int i)
  | str (x : Str) : RepD K H (.str x) (.str x)
  | tup {a : Addr} {vs : List V} {ds : List D} : H a = some (.tup vs) → RepDs K H vs ds → RepD K H (.ref a) (.tup ds)
  | rol {a : Addr} {vs : List V} {ds : List D} : SqF K H a vs → RepDs K H vs ds → RepD K H (.ref a) (.rol ds)
  | ref (a : Addr) : RepD K H (.ref a) (.ref a)
inductive RepDs (K : PySem.W.Frag) (H : Hp) : List V → List D → Prop
  | nil : RepDs K H [] []
  | cons {v : V} {d : D} {vs : List V} {ds : List D} : RepD K H v d → RepDs K H vs ds → RepDs K H (v :: vs) (d :: ds)
end
/-- tuples and known things are kept -/
structure Kp (H H' : Hp) : Prop where
  tup : ∀ a xs, H a = some (.tup xs) → H' a = some (.tup xs)
  frz : ∀ a o u, H a = some (.frz o u) → H' a = some (.frz o u)
theorem Kp.refl (H : Hp) : Kp H H := ⟨fun _ _ h => h, fun _ _ _ h => h⟩
theorem Kp.trans {H H1 H2 : Hp} (a : Kp H H1) (b : Kp H1 H2) : Kp H H2 := ⟨fun c xs h => b.tup c xs (a.tup c xs h), fun c o u h => b.frz c o u (a.frz c o u h)⟩
theorem Kp.sqT {K : PySem.W.Frag} {H H' : Hp} {a : Addr} {xs : List V} (k : Kp H H') (h : SqT K H a xs) : SqT K H' a xs := by
  rcases h with (h | ⟨o, h⟩) | h
  · exact .inl (.inl (k.tup _ _ h))
  · exact .inl (.inr ⟨o, k.frz _ _ _ h⟩)
  · exact .inr h
theorem Kp.sqF {K : PySem.W.Frag} {H H' : Hp} {a : Addr} {xs : List V} (k : Kp H H') (h : SqF K H a xs) : SqF K H' a xs := by
  rcases h with ⟨o, h⟩ | h
  · exact .inl ⟨o, k.frz _ _ _ h⟩
  · exact .inr h
mutual
theorem RepD.mono {K : PySem.W.Frag} {H H' : Hp} (k : Kp H H') : ∀ {v : V} {d : D}, RepD K H v d → RepD K H' v d
  | _, _, .non => .non
  | _, _, .bl b => .bl b
  | _, _, .int i => .int i
  | _, _, .str x => .str x
  | _, _, .tup h r => .tup (k.tup _ _ h) (RepDs.mono k r)
  | _, _, .rol h r => .rol (k.sqF h) (RepDs.mono k r)
  | _, _, .ref a => .ref a
theorem RepDs.mono {K : PySem.W.Frag} {H H' : Hp} (k : Kp H H') : ∀ {v : List V} {d : List D}, RepDs K H v d → RepDs K H' v d
  | _, _, .nil => .nil
  | _, _, .cons r t => .cons (RepD.mono k r) (RepDs.mono k t)
end
theorem RepDs.length {K : PySem.W.Frag} {H : Hp} : ∀ {vs : List V} {ds : List D}, RepDs K H vs ds → vs.length = ds.length
  | _, _, .nil => rfl
  | _, _, .cons _ t => by rw [List.length_cons, List.length_cons, RepDs.length t]
theorem RepDs.get {K : PySem.W.Frag} {H : Hp} : ∀ {vs : List V} {ds : List D} {i : Nat} {d : D}, RepDs K H vs ds → ds[i]? = some d → ∃ v, vs[i]? = some v ∧ RepD K H v d
  | _, _, _, _, .nil, e => by simp at e
  | _, _, 0, _, .cons r _, e => by simp at e; subst e; exact ⟨_, rfl, r⟩
  | _, _, i + 1, d, .cons _ t, e => by
    obtain ⟨u, h1, h2⟩ := RepDs.get (i := i) (d := d) t (by simpa using e)
    exact ⟨u, by simpa using h1, h2⟩
theorem RepDs.getV {K : PySem.W.Frag} {H : Hp} : ∀ {vs : List V} {ds : List D} {i : Nat} {v : V}, RepDs K H vs ds → vs[i]? = some v → ∃ d, ds[i]? = some d ∧ RepD K H v d
  | _, _, _, _, .nil, e => by simp at e
  | _, _, 0, _, .cons r _, e => by simp at e; subst e; exact ⟨_, rfl, r⟩
  | _, _, i + 1, v, .cons _ t, e => by
    obtain ⟨u, h1, h2⟩ := RepDs.getV (i := i) (v := v) t (by simpa using e)
    exact ⟨u, by simpa using h1, h2⟩
theorem RepDs.append {K : PySem.W.Frag} {H : Hp} : ∀ {vs ws : List V} {ds es : List D}, RepDs K H vs ds → RepDs K H ws es → RepDs K H (vs ++ ws) (ds ++ es)
  | _, _, _, _, .nil, s => s
  | _, _, _, _, .cons r t, s => .cons r (RepDs.append t s)
theorem RepDs.take {K : PySem.W.Frag} {H : Hp} : ∀ {vs : List V} {ds : List D} (n : Nat), RepDs K H vs ds → RepDs K H (vs.take n) (ds.take n)
  | _, _, 0, _ => .nil
  | _, _, _ + 1, .nil => .nil
  | _, _, n + 1, .cons r t => .cons r (RepDs.take n t)
theorem RepDs.drop {K : PySem.W.Frag} {H : Hp} : ∀ {vs : List V} {ds : List D} (n : Nat), RepDs K H vs ds → RepDs K H (vs.drop n) (ds.drop n)
  | _, _, 0, r => r
  | _, _, _ + 1, .nil => .nil
  | _, _, n + 1, .cons _ t => RepDs.drop n t
theorem RepDs.set {K : PySem.W.Frag} {H : Hp} {v : V} {d : D} (r : RepD K H v d) : ∀ {vs : List V} {ds : List D} (i : Nat), RepDs K H vs ds → RepDs K H (vs.set i v) (ds.set i d)
  | _, _, _, .nil => .nil
  | _, _, 0, .cons _ t => .cons r t
  | _, _, i + 1, .cons q t => .cons q (RepDs.set r i t)
theorem RepDs.one {K : PySem.W.Frag} {H : Hp} : ∀ {vs : List V} {d : D}, RepDs K H vs [d] → ∃ v, vs = [v] ∧ RepD K H v d
  | _, _, .cons r .nil => ⟨_, rfl, r⟩
theorem RepDs.two {K : PySem.W.Frag} {H : Hp} : ∀ {vs : List V} {d e : D}, RepDs K H vs [d, e] → ∃ v u, vs = [v, u] ∧ RepD K H v d ∧ RepD K H u e
  | _, _, _, .cons r (.cons q .nil) => ⟨_, _, rfl, r, q⟩
theorem RepDs.zero {K : PySem.W.Frag} {H : Hp} : ∀ {vs : List V}, RepDs K H vs [] → vs = []
  | _, .nil => rfl
theorem RepDs.ints {K : PySem.W.Frag} {H : Hp} : ∀ {vs : List V} {ns : List Int}, RepDs K H vs (ns.map D.int) → vs = ns.map V.int
  | _, [], h => by rw [List.map_nil] at h; rw [h.zero]; rfl
  | _, n :: ns, h => by
    rw [List.map_cons] at h
    cases h with
    | cons r t =>
      cases r
      rw [RepDs.ints t]; rfl
theorem RepDs.of_ints {K : PySem.W.Frag} {H : Hp} : ∀ (ns : List Int), RepDs K H (ns.map V.int) (ns.map D.int)
  | [] => .nil
  | n :: ns => .cons (.int n) (RepDs.of_ints ns)

/-! ### dicts -/
def keyD : Key → D
  | .inl i => .int i
  | .inr x => .str x
inductive DKs (K : PySem.W.Frag) (H : Hp) : List (Key × V) → List (D × D) → Prop
  | nil : DKs K H [] []
  | cons {k : Key} {v : V} {d : D} {r : List (Key × V)} {t : List (D × D)} : RepD K H v d → DKs K H r t → DKs K H ((k, v) :: r) ((keyD k, d) :: t)
inductive DTs (K : PySem.W.Frag) (H : Hp) : List (List Key × V) → List (D × D) → Prop
  | nil : DTs K H [] []
  | cons {k : List Key} {v : V} {d : D} {r : List (List Key × V)} {t : List (D × D)} : RepD K H v d → DTs K H r t → DTs K H ((k, v) :: r) ((.tup (k.map keyD), d) :: t)
theorem DKs.mono {K : PySem.W.Frag} {H H' : Hp} (k : Kp H H') : ∀ {v : List (Key × V)} {d : List (D × D)}, DKs K H v d → DKs K H' v d
  | _, _, .nil => .nil
  | _, _, .cons r t => .cons (r.mono k) (DKs.mono k t)
theorem DTs.mono {K : PySem.W.Frag} {H H' : Hp} (k : Kp H H') : ∀ {v : List (List Key × V)} {d : List (D × D)}, DTs K H v d → DTs K H' v d
  | _, _, .nil => .nil
  | _, _, .cons r t => .cons (r.mono k) (DTs.mono k t)
theorem DKs.length {K : PySem.W.Frag} {H : Hp} : ∀ {v : List (Key × V)} {d : List (D × D)}, DKs K H v d → v.length = d.length
  | _, _, .nil => rfl
  | _, _, .cons _ t => by rw [List.length_cons, List.length_cons, DKs.length t]
theorem DTs.length {K : PySem.W.Frag} {H : Hp} : ∀ {v : List (List Key × V)} {d : List (D × D)}, DTs K H v d → v.length = d.length
  | _, _, .nil => rfl
  | _, _, .cons _ t => by rw [List.length_cons, List.length_cons, DTs.length t]

/-! ### the heap -/
def AbO (K : PySem.W.Frag) (H : Hp) (a : Addr) : GO → Prop
  | .lst ds => ∃ vs, H a = some (.lst vs) ∧ RepDs K H vs ds
  | .dic kvs => (∃ kv, H a = some (.dK kv) ∧ DKs K H kv kvs) ∨ ∃ kv, H a = some (.dT kv) ∧ DTs K H kv kvs
def AbH (K : PySem.W.Frag) (H : Hp) (G : Gp) : Prop := ∀ a g, G a = some g → AbO K H a g
theorem AbO.dk {K : PySem.W.Frag} {H : Hp} {a : Addr} {kv : List (Key × V)} {kvs : List (D × D)} (h : H a = some (.dK kv)) (r : DKs K H kv kvs) : AbO K H a (.dic kvs) := .inl ⟨kv, h, r⟩
theorem AbO.dt {K : PySem.W.Frag} {H : Hp} {a : Addr} {kv : List (List Key × V)} {kvs : List (D × D)} (h : H a = some (.dT kv)) (r : DTs K H kv kvs) : AbO K H a (.dic kvs) := .inr ⟨kv, h, r⟩
theorem AbO.mono {K : PySem.W.Frag} {H H' : Hp} {a : Addr} {g : GO} (k : Kp H H') (e : H' a = H a) (h : AbO K H a g) : AbO K H' a g := by
  cases g with
  | lst ds => obtain ⟨vs, q, r⟩ := h; exact ⟨vs, e.trans q, r.mono k⟩
  | dic kvs =>
    rcases h with ⟨kv, q, r⟩ | ⟨kv, q, r⟩
    · exact .inl ⟨kv, e.trans q, r.mono k⟩
    · exact .inr ⟨kv, e.trans q, r.mono k⟩
theorem AbO.tracked {K : PySem.W.Frag} {H : Hp} {a : Addr} {g : GO} (h : AbO K H a g) : H a ≠ none := by
  cases g with
  | lst ds => obtain ⟨vs, q, r⟩ := h; rw [q]; simp
  | dic kvs =>
    rcases h with ⟨kv, q, r⟩ | ⟨kv, q, r⟩
    · rw [q]; simp
    · rw [q]; simp
theorem AbH.free {K : PySem.W.Frag} {H : Hp} {G : Gp} {a : Addr} (h : AbH K H G) (e : H a = none) : G a = none := by
  cases q : G a with
  | none => rfl
  | some g => exact absurd e (h a g q).tracked
theorem AbH.notup {K : PySem.W.Frag} {H : Hp} {G : Gp} {a : Addr} {xs : List V} (h : AbH K H G) (e : H a = some (.tup xs)) : G a = none := by
  cases q : G a with
  | none => rfl
  | some g =>
    have z := h a g q
    cases g with
    | lst ds => obtain ⟨vs, q, r⟩ := z; rw [e] at q; cases q
    | dic kvs =>
      rcases z with ⟨kv, q, r⟩ | ⟨kv, q, r⟩
      · rw [e] at q; cases q
      · rw [e] at q; cases q
theorem AbH.nofrz {K : PySem.W.Frag} {H : Hp} {G : Gp} {a : Addr} {o : Obj} {u : HO} (h : AbH K H G) (e : H a = some (.frz o u)) : G a = none := by
  cases q : G a with
  | none => rfl
  | some g =>
    have z := h a g q
    cases g with
    | lst ds => obtain ⟨vs, q, r⟩ := z; rw [e] at q; cases q
    | dic kvs =>
      rcases z with ⟨kv, q, r⟩ | ⟨kv, q, r⟩
      · rw [e] at q; cases q
      · rw [e] at q; cases q
/-- a step: what is not seen stays, what is tracked stays tracked, what is seen is so -/
structure Mv (K : PySem.W.Frag) (H : Hp) (G : Gp) (H' : Hp) (G' : Gp) : Prop where
  keep : ∀ a o, H a = some o → G a = none → H' a = some o ∧ G' a = none
  stay : ∀ a, G a ≠ none → H' a ≠ none
  ab : AbH K H' G'
theorem Mv.refl {K : PySem.W.Frag} {H : Hp} {G : Gp} (h : AbH K H G) : Mv K H G H G := ⟨fun _ _ e n => ⟨e, n⟩, fun a n => by
  cases q : G a with
  | none => exact absurd q n
  | some g => exact (h a g q).tracked, h⟩
theorem Mv.trans {K : PySem.W.Frag} {H H1 H2 : Hp} {G G1 G2 : Gp} (a : Mv K H G H1 G1) (b : Mv K H1 G1 H2 G2) : Mv K H G H2 G2 :=
  ⟨fun c o e n => let ⟨e1, n1⟩ := a.keep c o e n; b.keep c o e1 n1, fun c n => by
    have h1 := a.stay c n
    cases q : G1 c with
    | some g => exact b.stay c (by rw [q]; simp)
    | none =>
      cases q1 : H1 c with
      | none => exact absurd q1 h1
      | some o => rw [(b.keep c o q1 q).1]; simp, b.ab⟩
theorem Mv.kp {K : PySem.W.Frag} {H H' : Hp} {G G' : Gp} (m : Mv K H G H' G') (h : AbH K H G) : Kp H H' :=
  ⟨fun a xs e => (m.keep a _ e (h.notup e)).1, fun a o u e => (m.keep a _ e (h.nofrz e)).1⟩
theorem Kp.new {H : Hp} {p : Addr} {o : HO} (hp : H p = none) : Kp H (upd H p o) := ⟨fun a xs e => by rw [upd_ne (ne_of_none e hp)]; exact e, fun a ob u e => by rw [upd_ne (ne_of_none e hp)]; exact e⟩
theorem Kp.putL {H : Hp} {p : Addr} {xs : List V} {o : HO} (hp : H p = some (.lst xs)) : Kp H (upd H p o) :=
  ⟨fun a ys e => by rw [upd_ne (by rintro rfl; rw [hp] at e; cases e)]; exact e, fun a ob u e => by rw [upd_ne (by rintro rfl; rw [hp] at e; cases e)]; exact e⟩
/-- a new thing that is seen -/
theorem Mv.new {K : PySem.W.Frag} {H : Hp} {G : Gp} {p : Addr} {o : HO} {g : GO} (h : AbH K H G) (hp : H p = none) (ho : AbO K (upd H p o) p g) : Mv K H G (upd H p o) (updG G p g) where
  keep := fun a ob e n => by
    have ne := ne_of_none e hp
    exact ⟨by rw [upd_ne ne]; exact e, by rw [updG_ne ne]; exact n⟩
  stay := fun a n => by
    have ne : a ≠ p := by rintro rfl; exact n (h.free hp)
    rw [upd_ne ne]
    exact (Mv.refl h).stay a n
  ab := fun a g' e => by
    by_cases ha : a = p
    · subst ha; rw [updG_same] at e; cases e; exact ho
    · rw [updG_ne ha] at e
      exact (h a g' e).mono (.new hp) (upd_ne ha)
/-- a new thing that is not seen -/
theorem Mv.hid {K : PySem.W.Frag} {H : Hp} {G : Gp} {p : Addr} {o : HO} (h : AbH K H G) (hp : H p = none) : Mv K H G (upd H p o) G where
  keep := fun a ob e n => ⟨by rw [upd_ne (ne_of_none e hp)]; exact e, n⟩
  stay := fun a n => by
    have ne : a ≠ p := by rintro rfl; exact n (h.free hp)
    rw [upd_ne ne]
    exact (Mv.refl h).stay a n
  ab := fun a g' e => by
    have ne : a ≠ p := by rintro rfl; rw [h.free hp] at e; cases e
    exact (h a g' e).mono (.new hp) (upd_ne ne)
/-- a seen thing is changed -/
theorem Mv.put {K : PySem.W.Frag} {H : Hp} {G : Gp} {p : Addr} {o : HO} {g g0 : GO} (h : AbH K H G) (hg : G p = some g0) (k : Kp H (upd H p o)) (ho : AbO K (upd H p o) p g) : Mv K H G (upd H p o) (updG G p g) where
  keep := fun a ob e n => by
    have ne : a ≠ p := by rintro rfl; rw [hg] at n; cases n
    exact ⟨by rw [upd_ne ne]; exact e, by rw [updG_ne ne]; exact n⟩
  stay := fun a n => by
    by_cases ha : a = p
    · subst ha; rw [upd_same]; simp
    · rw [upd_ne ha]; exact (Mv.refl h).stay a n
  ab := fun a g' e => by
    by_cases ha : a = p
    · subst ha; rw [updG_same] at e; cases e; exact ho
    · rw [updG_ne ha] at e
      exact (h a g' e).mono k (upd_ne ha)
theorem AbH.lst {K : PySem.W.Frag} {H : Hp} {G : Gp} {a : Addr} {ds : List D} (h : AbH K H G) (e : G a = some (.lst ds)) : ∃ vs, H a = some (.lst vs) ∧ RepDs K H vs ds := h a _ e
theorem Mv.newL {K : PySem.W.Frag} {H : Hp} {G : Gp} {p : Addr} {vs : List V} {ds : List D} (h : AbH K H G) (hp : H p = none) (r : RepDs K H vs ds) : Mv K H G (upd H p (.lst vs)) (updG G p (.lst ds)) :=
  .new h hp ⟨vs, upd_same, r.mono (.new hp)⟩
theorem Mv.putL {K : PySem.W.Frag} {H : Hp} {G : Gp} {p : Addr} {vs0 vs : List V} {ds0 ds : List D} (h : AbH K H G) (hg : G p = some (.lst ds0)) (hp : H p = some (.lst vs0)) (r : RepDs K H vs ds) : Mv K H G (upd H p (.lst vs)) (updG G p (.lst ds)) :=
  .put h hg (.putL hp) ⟨vs, upd_same, r.mono (.putL hp)⟩

/-! ### names -/
structure AbS (K : PySem.W.Frag) (H : Hp) (σ : L2.St) (τ : St2) : Prop where
  len : σ.length = τ.length
  at' : ∀ (i : Nat) (d : D), τ[i]? = some (some d) → ∃ v, σ[i]? = some (some v) ∧ RepD K H v d
theorem AbS.mono {K : PySem.W.Frag} {H H' : Hp} {σ : L2.St} {τ : St2} (k : Kp H H') (a : AbS K H σ τ) : AbS K H' σ τ :=
  ⟨a.len, fun i d e => let ⟨v, h1, h2⟩ := a.at' i d e; ⟨v, h1, h2.mono k⟩⟩
theorem AbS.set {K : PySem.W.Frag} {H : Hp} {σ : L2.St} {τ : St2} {v : V} {d : D} (a : AbS K H σ τ) (i : Nat) (r : RepD K H v d) : AbS K H (σ.set i (some v)) (τ.set i (some d)) := by
  refine ⟨by rw [List.length_set, List.length_set]; exact a.len, fun j e h => ?_⟩
  by_cases hj : i = j
  · subst hj
    by_cases hi : i < τ.length
    · rw [List.getElem?_set_self hi] at h
      cases h
      exact ⟨v, by rw [List.getElem?_set_self (by rw [a.len]; exact hi)], r⟩
    · rw [List.set_eq_of_length_le (by omega)] at h
      rw [List.getElem?_eq_none (by omega)] at h
      cases h
  · rw [List.getElem?_set_ne hj] at h
    obtain ⟨w, h1, h2⟩ := a.at' j e h
    exact ⟨w, by rw [List.getElem?_set_ne hj]; exact h1, h2⟩
structure I2 (X : Cx) (pins : List (Addr × Obj)) (σ : L2.St) (H : Hp) (τ : St2) (G : Gp) (s : Shared) : Prop where
  inv : Inv X pins σ H s
  st : AbS X.K H σ τ
  ab : AbH X.K H G
theorem I2.mv {X : Cx} {pins : List (Addr × Obj)} {σ : L2.St} {H H' : Hp} {τ : St2} {G G' : Gp} {s s' : Shared} (I : I2 X pins σ H τ G s) (I' : Inv X pins σ H' s') (m : Mv X.K H G H' G') : I2 X pins σ H' τ G' s' :=
  ⟨I', I.st.mono (m.kp I.ab), m.ab⟩

/-! ### the judgements -/
/-- an exception that leaves is one that is wanted (so far none leaves) -/
def Lk (X : Cx) (E : XK2) : Prop := True
def EP2 (X : Cx) (pins : List (Addr × Obj)) (σ : L2.St) (H : Hp) (G : Gp) (Q : DK) (u : Value) (s' : Shared) : Prop :=
  ∃ v H' d G', Inv X pins σ H' s' ∧ Mv X.K H G H' G' ∧ RelV v u ∧ RepD X.K H' v d ∧ Q d G'
def TP2 (X : Cx) (pins : List (Addr × Obj)) (σ : L2.St) (H : Hp) (G : Gp) (Q : Bool → Gp → Prop) (b : Bool) (s' : Shared) : Prop :=
  ∃ H' G', Inv X pins σ H' s' ∧ Mv X.K H G H' G' ∧ Q b G'
def AP2 (X : Cx) (pins : List (Addr × Obj)) (σ : L2.St) (H : Hp) (G : Gp) (Q : List D → Gp → Prop) (us : List Value) (s' : Shared) : Prop :=
  ∃ vs H' ds G', Inv X pins σ H' s' ∧ Mv X.K H G H' G' ∧ Vals vs us ∧ RepDs X.K H' vs ds ∧ Q ds G'
def SP2 (X : Cx) (pins : List (Addr × Obj)) (H : Hp) (G : Gp) (D : Ends2) (f : Flow) (s' : Shared) : Prop :=
  match f with
  | .next => ∃ σ' H' τ' G', I2 X pins σ' H' τ' G' s' ∧ Mv X.K H G H' G' ∧ D.nx τ' G'
  | .brk => ∃ σ' H' τ' G', I2 X pins σ' H' τ' G' s' ∧ Mv X.K H G H' G' ∧ D.bk τ' G'
  | .cont => ∃ σ' H' τ' G', I2 X pins σ' H' τ' G' s' ∧ Mv X.K H G H' G' ∧ D.ct τ' G'
  | .ret u => ∃ v σ' H' d G', Inv X pins σ' H' s' ∧ Mv X.K H G H' G' ∧ RelV v u ∧ RepD X.K H' v d ∧ D.rt d G'
def PE2 (X : Cx) (e : Expr) (t : TE2) : Prop :=
  ∀ (E : XK2) (pins : List (Addr × Obj)) (s : Shared) (σ : L2.St) (H : Hp) (τ : St2) (G : Gp) (Q : DK), Lk X E → I2 X pins σ H τ G s → t E τ G Q → wpAny (model X.prog X.w) X.A (eval e X.env) (EP2 X pins σ H G Q) X.xe s
def PT2 (X : Cx) (e : Expr) (t : TT2) : Prop :=
  ∀ (E : XK2) (pins : List (Addr × Obj)) (s : Shared) (σ : L2.St) (H : Hp) (τ : St2) (G : Gp) (Q : Bool → Gp → Prop), Lk X E → I2 X pins σ H τ G s → t E τ G Q → wpAny (model X.prog X.w) X.A (isTrue e X.env (eval e X.env)) (TP2 X pins σ H G Q) X.xe s
/-- a test whatever the whole's evaluation -/
def PW2 (X : Cx) (e : Expr) (t : TT2) : Prop :=
  ∀ (wh : Sem Value) (E : XK2) (pins : List (Addr × Obj)) (s : Shared) (σ : L2.St) (H : Hp) (τ : St2) (G : Gp) (Q : Bool → Gp → Prop), Lk X E → I2 X pins σ H τ G s → t E τ G Q → wpAny (model X.prog X.w) X.A (isTrue e X.env wh) (TP2 X pins σ H G Q) X.xe s
def PA2 (X : Cx) (es : List Expr) (t : TA2) : Prop :=
  ∀ (pos : Pos) (E : XK2) (pins : List (Addr × Obj)) (s : Shared) (σ : L2.St) (H : Hp) (τ : St2) (G : Gp) (Q : List D → Gp → Prop), Lk X E → I2 X pins σ H τ G s → t E τ G Q → wpAny (model X.prog X.w) X.A (spliced (backTo pos (starEach es X.env))) (AP2 X pins σ H G Q) X.xe s
def PS2 (X : Cx) (st : Stmt) (t : TS2) : Prop :=
  ∀ (E : XK2) (pins : List (Addr × Obj)) (s : Shared) (σ : L2.St) (H : Hp) (τ : St2) (G : Gp) (D : Ends2), Lk X E → I2 X pins σ H τ G s → t E D τ G → wpAny (model X.prog X.w) X.A (exec st X.env) (SP2 X pins H G D) X.xe s
def PSs2 (X : Cx) (st : List Stmt) (t : TS2) : Prop :=
  ∀ (E : XK2) (pins : List (Addr × Obj)) (s : Shared) (σ : L2.St) (H : Hp) (τ : St2) (G : Gp) (D : Ends2), Lk X E → I2 X pins σ H τ G s → t E D τ G → wpAny (model X.prog X.w) X.A (execs st X.env) (SP2 X pins H G D) X.xe s

theorem SP2.trans {X : Cx} {pins : List (Addr × Obj)} {H H1 : Hp} {G G1 : Gp} {D : Ends2} {f : Flow} {s' : Shared} (m : Mv X.K H G H1 G1) (h : SP2 X pins H1 G1 D f s') : SP2 X pins H G D f s' := by
  cases f with
  | next => obtain ⟨σ', H', τ', G', I, m', q⟩ := h; exact ⟨σ', H', τ', G', I, m.trans m', q⟩
  | brk => obtain ⟨σ', H', τ', G', I, m', q⟩ := h; exact ⟨σ', H', τ', G', I, m.trans m', q⟩
  | cont => obtain ⟨σ', H', τ', G', I, m', q⟩ := h; exact ⟨σ', H', τ', G', I, m.trans m', q⟩
  | ret u => obtain ⟨v, σ', H', d, G', I, m', r, rd, q⟩ := h; exact ⟨v, σ', H', d, G', I, m.trans m', r, rd, q⟩

section
variable {X : Cx} {a b c : Expr} {ta tb tc : TE2} {pos : Pos}
/-- a step from one seen state to the next -/
theorem thnE {pins : List (Addr × Obj)} {σ : L2.St} {H : Hp} {τ : St2} {G : Gp} {s : Shared} {E : XK2} {R : DK} {Q : Value → Shared → Prop} (ha : PE2 X a ta) (hE : Lk X E) (I : I2 X pins σ H τ G s) (h : ta E τ G R)
    (k : ∀ v H1 d G1 u s1, I2 X pins σ H1 τ G1 s1 → Mv X.K H G H1 G1 → RelV v u → RepD X.K H1 v d → R d G1 → Q u s1) : wpAny (model X.prog X.w) X.A (eval a X.env) Q X.xe s :=
  thn (ha E pins s σ H τ G R hE I h) fun u s1 ⟨v, H1, d, G1, I1, m, r, rd, q⟩ => k v H1 d G1 u s1 (I.mv I1 m) m r rd q
theorem EP2.trans {pins : List (Addr × Obj)} {σ : L2.St} {H H1 : Hp} {G G1 : Gp} {Q : DK} {u : Value} {s' : Shared} (m : Mv X.K H G H1 G1) (h : EP2 X pins σ H1 G1 Q u s') : EP2 X pins σ H G Q u s' := by
  obtain ⟨v, H', d, G', I, m', r⟩ := h
  exact ⟨v, H', d, G', I, m.trans m', r⟩
theorem TP2.trans {pins : List (Addr × Obj)} {σ : L2.St} {H H1 : Hp} {G G1 : Gp} {Q : Bool → Gp → Prop} {u : Bool} {s' : Shared} (m : Mv X.K H G H1 G1) (h : TP2 X pins σ H1 G1 Q u s') : TP2 X pins σ H G Q u s' := by
  obtain ⟨H', G', I, m', r⟩ := h
  exact ⟨H', G', I, m.trans m', r⟩
theorem AP2.trans {pins : List (Addr × Obj)} {σ : L2.St} {H H1 : Hp} {G G1 : Gp} {Q : List D → Gp → Prop} {u : List Value} {s' : Shared} (m : Mv X.K H G H1 G1) (h : AP2 X pins σ H1 G1 Q u s') : AP2 X pins σ H G Q u s' := by
  obtain ⟨v, H', d, G', I, m', r⟩ := h
  exact ⟨v, H', d, G', I, m.trans m', r⟩

/-! ### names and constants -/
theorem pe2_var {i : Nat} {x : Str} (hN : X.N[i]? = some x) (hv : Vis X.env.scope x) (hd : (x == ("__debug__" : Str)) = false := by decide) (hcd : (x == ("__classdict__" : Str)) = false := by decide) : PE2 X (.Name x pos) (dVar i) := by
  intro E pins s σ H τ G Q hE I h
  unfold dVar at h
  split at h
  · rename_i d e
    obtain ⟨v, h1, h2⟩ := I.st.at' i d e
    exact thn (pe_var hN hv hd hcd pins s σ H (fun v' H' => v' = v ∧ H' = H) I.inv ⟨v, h1, rfl, rfl⟩) fun u s1 ⟨v', H', I1, r, e1, e2⟩ => by
      subst e1; subst e2
      exact ⟨_, _, d, G, I1, .refl I.ab, r, h2, h⟩
  · exact h.elim
/-- an expression whose reading is a constant's -/
theorem pe2_const {e : Expr} {v : V} {d : D} (h : PE X e (tC v)) (r : ∀ K H, RepD K H v d) : PE2 X e (dC d) := by
  intro E pins s σ H τ G Q hE I hq
  exact thn (h pins s σ H (fun v' H' => v' = v ∧ H' = H) I.inv ⟨rfl, rfl⟩) fun u s1 ⟨v', H', I1, rr, e1, e2⟩ => by
    subst e1; subst e2
    exact ⟨_, _, d, G, I1, .refl I.ab, rr, r _ _, hq⟩
theorem pe2_int {i j} : PE2 X (.Constant (.int i) j pos) (dC (.int i)) := pe2_const pe_int fun _ _ => .int i

/-! ### operations by values -/
def OpR2 (X : Cx) (f : Value → Value → Sem Value) (r : R22) : Prop :=
  ∀ (pins : List (Addr × Obj)) (s : Shared) (σ : L2.St) (H : Hp) (G : Gp) (x y : V) (dx dy : D) (v u : Value) (Q : DK), Inv X pins σ H s → AbH X.K H G → RelV x v → RelV y u → RepD X.K H x dx → RepD X.K H y dy → r dx dy G Q →
    wpAny (model X.prog X.w) X.A (f v u) (EP2 X pins σ H G Q) X.xe s
def UnR2 (X : Cx) (f : Value → Sem Value) (r : D → Gp → DK → Prop) : Prop :=
  ∀ (pins : List (Addr × Obj)) (s : Shared) (σ : L2.St) (H : Hp) (G : Gp) (x : V) (dx : D) (v : Value) (Q : DK), Inv X pins σ H s → AbH X.K H G → RelV x v → RepD X.K H x dx → r dx G Q →
    wpAny (model X.prog X.w) X.A (f v) (EP2 X pins σ H G Q) X.xe s
def CallR2 (X : Cx) (f : Value) (r : List D → Gp → DK → Prop) : Prop :=
  ∀ (pins : List (Addr × Obj)) (s : Shared) (σ : L2.St) (H : Hp) (G : Gp) (xs : List V) (ds : List D) (us : List Value) (Q : DK), Inv X pins σ H s → AbH X.K H G → Vals xs us → RepDs X.K H xs ds → r ds G Q →
    wpAny (model X.prog X.w) X.A (call f us) (EP2 X pins σ H G Q) X.xe s
/-- what a value-level rule must reach -/
abbrev Rch (K : PySem.W.Frag) (H : Hp) (G : Gp) (Q : DK) : VK := fun v H' => ∃ d G', Mv K H G H' G' ∧ RepD K H' v d ∧ Q d G'
theorem EP2.of {pins : List (Addr × Obj)} {σ : L2.St} {H : Hp} {G : Gp} {Q : DK} {u : Value} {s' : Shared} (h : EP X pins σ (Rch X.K H G Q) u s') : EP2 X pins σ H G Q u s' := by
  obtain ⟨v, H', I, r, d, G', m, rd, q⟩ := h
  exact ⟨v, H', d, G', I, m, r, rd, q⟩
theorem OpR2.of {f : Value → Value → Sem Value} {rb : R2} {r : R22} (ho : OpR X f rb) (h : ∀ H G x y dx dy Q, AbH X.K H G → RepD X.K H x dx → RepD X.K H y dy → r dx dy G Q → rb x y H (Rch X.K H G Q)) : OpR2 X f r := by
  intro pins s σ H G x y dx dy v u Q I ab rx ry dX dY q
  exact thn (ho pins s σ H x y v u _ I rx ry (h H G x y dx dy Q ab dX dY q)) fun _ _ z => .of z
theorem UnR2.of {f : Value → Sem Value} {rb : V → Hp → VK → Prop} {r : D → Gp → DK → Prop} (ho : UnR X f rb) (h : ∀ H G x dx Q, AbH X.K H G → RepD X.K H x dx → r dx G Q → rb x H (Rch X.K H G Q)) : UnR2 X f r := by
  intro pins s σ H G x dx v Q I ab rx dX q
  exact thn (ho pins s σ H x v _ I rx (h H G x dx Q ab dX q)) fun _ _ z => .of z
theorem CallR2.of {f : Value} {rb : List V → Hp → VK → Prop} {r : List D → Gp → DK → Prop} (ho : CallR X f rb) (h : ∀ H G xs ds Q, AbH X.K H G → RepDs X.K H xs ds → r ds G Q → rb xs H (Rch X.K H G Q)) : CallR2 X f r := by
  intro pins s σ H G xs ds us Q I ab rx dX q
  exact thn (ho pins s σ H xs us _ I rx (h H G xs ds Q ab dX q)) fun _ _ z => .of z
theorem OpR2.or {f : Value → Value → Sem Value} {r r' r'' : R22} (h : OpR2 X f r) (h' : OpR2 X f r') (hr : ∀ x y G Q, r'' x y G Q → r x y G Q ∨ r' x y G Q) : OpR2 X f r'' := by
  intro pins s σ H G x y dx dy v u Q I ab rx ry dX dY q
  rcases hr _ _ _ _ q with q | q
  · exact h pins s σ H G x y dx dy v u Q I ab rx ry dX dY q
  · exact h' pins s σ H G x y dx dy v u Q I ab rx ry dX dY q

theorem binT2 (ha : PE2 X a ta) (hb : PE2 X b tb) {E : XK2} {pins : List (Addr × Obj)} {s : Shared} {σ : L2.St} {H : Hp} {τ : St2} {G : Gp} {R : D → D → Gp → Prop} (hE : Lk X E) (I : I2 X pins σ H τ G s)
    (h : ta E τ G fun x G1 => tb E τ G1 fun y G2 => R x y G2) {Q : Value → Shared → Prop} {f : Value → Value → Sem Value}
    (hf : ∀ v u s2 x y dx dy H2 G2, I2 X pins σ H2 τ G2 s2 → Mv X.K H G H2 G2 → RelV x v → RelV y u → RepD X.K H2 x dx → RepD X.K H2 y dy → R dx dy G2 → wpAny (model X.prog X.w) X.A (f v u) Q X.xe s2) :
    wpAny (model X.prog X.w) X.A (eval a X.env) (fun v s₁ => wpAny (model X.prog X.w) X.A (eval b X.env) (fun u s₂ => wpAny (model X.prog X.w) X.A (f v u) Q X.xe s₂) X.xe s₁) X.xe s := by
  refine thnE ha hE I h fun x H1 dx G1 v s1 I1 m1 r1 rd1 q1 => ?_
  refine thnE hb hE I1 q1 fun y H2 dy G2 u s2 I2' m2 r2 rd2 q2 => ?_
  exact hf v u s2 x y dx dy H2 G2 I2' (m1.trans m2) r1 r2 (rd1.mono (m2.kp I1.ab)) rd2 q2
theorem pe2_op {op : Operator} {r : R22} (ho : OpR2 X (binaryOp op) r) (ha : PE2 X a ta) (hb : PE2 X b tb) : PE2 X (.BinOp a op b pos) (dBin r ta tb) := by
  intro E pins s σ H τ G Q hE I h
  exact wpAny_BinOp (binT2 ha hb hE I h fun v u s2 x y dx dy H2 G2 I2' m rx ry dX dY q => thn (ho pins s2 σ H2 G2 x y dx dy v u Q I2'.inv I2'.ab rx ry dX dY q) fun _ _ z => z.trans m)
theorem pe2_un {op : UnaryOp} {r : D → Gp → DK → Prop} (ho : UnR2 X (unaryOp op) r) (ha : PE2 X a ta) : PE2 X (.UnaryOp op a pos) (dUn r ta) := by
  intro E pins s σ H τ G Q hE I h
  exact UnaryOp_ (thnE ha hE I h fun x H1 dx G1 v s1 I1 m1 r1 rd1 q1 => thn (ho pins s1 σ H1 G1 x dx v Q I1.inv I1.ab r1 rd1 q1) fun _ _ z => z.trans m1)
theorem pe2_cmp {op : CmpOp} {r : R22} (ho : OpR2 X (compareOp op) r) (ha : PE2 X a ta) (hb : PE2 X b tb) (hm : behindInMarks op b = false) : PE2 X (.Compare a [op] [b] pos) (dBin r ta tb) := by
  intro E pins s σ H τ G Q hE I h
  exact wpAny_Compare1 (binT2 ha hb hE I h fun v u s2 x y dx dy H2 G2 I2' m rx ry dX dY q => thn (ho pins s2 σ H2 G2 x y dx dy v u Q I2'.inv I2'.ab rx ry dX dY q) fun _ _ z => z.trans m) hm
end
end K2

end
section
namespace K2
open PySem PySem.Spec PyProof.Rows L2
set_option autoImplicit false

/-! ### truth, tests -/
theorem tru_V {K : PySem.W.Frag} {H : Hp} {G : Gp} {x : V} {d : D} {k : Bool} (ab : AbH K H G) (r : RepD K H x d) (e : tru d G = some k) : (∃ p, x = .ref p ∧ H p = some (.dT []) ∧ k = false) ∨ TruV K x H k := by
  cases r with
  | non => right; cases e; rfl
  | bl b => right; cases e; rfl
  | int i => right; cases e; rfl
  | str y =>
    right
    unfold tru at e
    dsimp only at e
    by_cases h : y.length ≤ SZ
    · rw [if_pos h] at e; cases e; exact ⟨by rw [sizeLine_eq]; exact h, rfl⟩
    · rw [if_neg h] at e; cases e
  | tup h rs =>
    right
    cases e
    refine .inr (.inl ⟨_, .of h, ?_⟩)
    cases rs <;> rfl
  | rol h rs =>
    right
    cases e
    refine .inl ⟨_, h.sq, ?_⟩
    cases rs <;> rfl
  | ref a =>
    unfold tru at e
    dsimp only at e
    cases q : G a with
    | none => rw [q] at e; cases e
    | some g =>
      rw [q] at e
      have z := ab a g q
      cases g with
      | lst ds =>
        right
        obtain ⟨vs, hv, rs⟩ := z
        cases e
        refine .inl ⟨vs, .of hv, ?_⟩
        cases rs <;> rfl
      | dic kvs =>
        dsimp only at e
        by_cases ha : (kvs.all fun p => keyOk1 p.1) = true
        · rw [if_pos ha] at e
          cases e
          rcases z with ⟨kv, hv, rs⟩ | ⟨kv, hv, rs⟩
          · right
            refine .inr (.inr ⟨kv, hv, ?_⟩)
            cases rs <;> rfl
          · left
            cases rs with
            | nil => exact ⟨a, rfl, hv, rfl⟩
            | cons _ _ => simp [keyOk1] at ha
        · rw [if_neg ha] at e; cases e
section
variable {X : Cx} {a b c : Expr} {ta tb tc : TE2} {pos : Pos}
def TruR2 (X : Cx) : Prop := ∀ (pins : List (Addr × Obj)) (s : Shared) (σ : L2.St) (H : Hp) (G : Gp) (x : V) (d : D) (v : Value) (k : Bool) (Q : Bool → Shared → Prop), Inv X pins σ H s → AbH X.K H G → RelV x v → RepD X.K H x d → tru d G = some k →
    (∀ s', Inv X pins σ H s' → Q k s') → wpAny (model X.prog X.w) X.A (truthy v) Q X.xe s
theorem tru2 : TruR2 X := by
  intro pins s σ H G x d v k Q I ab rx rd e q
  rcases tru_V ab rd e with ⟨p, rfl, hv, hk⟩ | h
  · obtain ⟨z, hS, xs, rel, o, es, ep, ho, hx, hd', hl, nd⟩ := I.hok p _ hv
    have hxs : xs = [] := by cases rel; rfl
    subst hxs
    have he : es = #[] := by simpa using hl
    subst he
    cases rx
    have dd : s.heap.DictOf (mixKind X.prog X.w) p [] := ⟨o, #[], ep, ho, hx, hd', (fun _ h => by simp at h), .nil, List.nodup_nil⟩
    refine wpAny_truthy_dict hS dd (by simp) ?_
    subst hk
    exact q _ (I.tok _)
  · exact thn (tru_ok pins s σ H x v (fun k' H' => k' = k ∧ H' = H) I rx ⟨k, h, rfl, rfl⟩) fun k' s' ⟨H', I', e1, e2⟩ => by
      subst e1; subst e2; exact q s' I'
theorem pt2_truth (ha : PE2 X a ta) (he : ∀ whole, isTrue a X.env whole = (do let v ← whole; standAt a.pos; holding [v] (truthy v)) := by intro _; rfl) : PT2 X a (dTru ta) := by
  intro E pins s σ H τ G Q hE I h
  refine isTrue_plain (thnE ha hE I h fun x H1 d G1 v s1 I1 m1 r1 rd1 q1 => ?_) (he _)
  try dsimp only at q1
  split at q1
  · rename_i k e
    exact tru2 pins s1 σ H1 G1 x d v k _ I1.inv I1.ab r1 rd1 e fun s' I' => ⟨H1, G1, I', m1, q1⟩
  · exact q1.elim
theorem pt2_cmp {op : CmpOp} {r : R22} (ho : OpR2 X (compareOp op) r) (ha : PE2 X a ta) (hb : PE2 X b tb) (hm : behindInMarks op b = false) : PT2 X (.Compare a [op] [b] pos) (dTru (dBin r ta tb)) := by
  intro E pins s σ H τ G Q hE I h
  refine wpAny_isTrue_Compare1 (thnE ha hE I h fun x H1 dx G1 v s1 I1 m1 r1 rd1 q1 => thnE hb hE I1 q1 fun y H2 dy G2 u s2 I2' m2 r2 rd2 q2 =>
    thn (ho pins s2 σ H2 G2 x y dx dy v u _ I2'.inv I2'.ab r1 r2 (rd1.mono (m2.kp I1.ab)) rd2 q2) fun c s3 ⟨z, H3, dz, G3, I3, m3, r3, rd3, q3⟩ => ?_) hm
  try dsimp only at q3
  split at q3
  · rename_i k e
    exact tru2 pins s3 σ H3 G3 z dz c k _ I3 m3.ab r3 rd3 e fun s' I' => ⟨H3, G3, I', (m1.trans m2).trans m3, q3⟩
  · exact q3.elim
variable {tA tB : TT2} {rest : List Expr}
theorem PW2.pt {e : Expr} {t : TT2} (h : PW2 X e t) : PT2 X e t := fun E pins s σ H τ G Q hE I q => h _ E pins s σ H τ G Q hE I q
theorem thnT {pins : List (Addr × Obj)} {σ : L2.St} {H : Hp} {τ : St2} {G : Gp} {s : Shared} {E : XK2} {R : Bool → Gp → Prop} {Q : Bool → Shared → Prop} (ha : PT2 X a tA) (hE : Lk X E) (I : I2 X pins σ H τ G s) (h : tA E τ G R)
    (k : ∀ c H1 G1 s1, I2 X pins σ H1 τ G1 s1 → Mv X.K H G H1 G1 → R c G1 → Q c s1) : wpAny (model X.prog X.w) X.A (isTrue a X.env (eval a X.env)) Q X.xe s :=
  thn (ha E pins s σ H τ G R hE I h) fun c s1 ⟨H1, G1, I1, m, q⟩ => k c H1 G1 s1 (I.mv I1 m) m q
theorem pw2_and1 (ha : PT2 X a tA) : PW2 X (.BoolOp .And [a] pos) tA := by
  intro wh E pins s σ H τ G Q hE I h
  refine isTrue_and (thn (ha E pins s σ H τ G Q hE I h) fun c s1 e => ?_)
  cases c with
  | true => exact isTrue_and_nil e
  | false => exact e
theorem pw2_or1 (ha : PT2 X a tA) : PW2 X (.BoolOp .Or [a] pos) tA := by
  intro wh E pins s σ H τ G Q hE I h
  refine isTrue_or (thn (ha E pins s σ H τ G Q hE I h) fun c s1 e => ?_)
  cases c with
  | false => exact isTrue_or_nil e
  | true => exact e
theorem pw2_and (ha : PT2 X a tA) (hb : PW2 X (.BoolOp .And (b :: rest) pos) tB) : PW2 X (.BoolOp .And (a :: b :: rest) pos) (dAnd tA tB) := by
  intro wh E pins s σ H τ G Q hE I h
  refine isTrue_and (thnT ha hE I h fun c H1 G1 s1 I1 m1 q1 => ?_)
  cases c with
  | true => exact thn (hb wh E pins s1 σ H1 τ G1 Q hE I1 (by simpa using q1)) fun _ _ z => z.trans m1
  | false => exact ⟨H1, G1, I1.inv, m1, by simpa using q1⟩
theorem pw2_or (ha : PT2 X a tA) (hb : PW2 X (.BoolOp .Or (b :: rest) pos) tB) : PW2 X (.BoolOp .Or (a :: b :: rest) pos) (dOr tA tB) := by
  intro wh E pins s σ H τ G Q hE I h
  refine isTrue_or (thnT ha hE I h fun c H1 G1 s1 I1 m1 q1 => ?_)
  cases c with
  | false => exact thn (hb wh E pins s1 σ H1 τ G1 Q hE I1 (by simpa using q1)) fun _ _ z => z.trans m1
  | true => exact ⟨H1, G1, I1.inv, m1, by simpa using q1⟩
theorem pt2_not (ha : PT2 X a tA) : PT2 X (.UnaryOp .Not a pos) (dNot tA) := by
  intro E pins s σ H τ G Q hE I h
  exact isTrue_not (ha E pins s σ H τ G (fun c H1 => Q (!c) H1) hE I h)
theorem pe2_one {op} {t : TE2} (h : PE2 X a t) : PE2 X (.BoolOp op [a] pos) t := fun E pins s σ H τ G Q hE I hw => BoolOp_one (h E pins s σ H τ G Q hE I hw)
theorem pe2_and (ha : PE2 X a ta) (hb : PE2 X (.BoolOp .And (b :: rest) pos) tb) : PE2 X (.BoolOp .And (a :: b :: rest) pos) (dAndV ta tb) := by
  intro E pins s σ H τ G Q hE I h
  refine BoolOp_and (thnE ha hE I h fun x H1 d G1 v s1 I1 m1 r1 rd1 q1 => ?_)
  try dsimp only at q1
  split at q1
  · rename_i e
    exact tru2 pins s1 σ H1 G1 x d v true _ I1.inv I1.ab r1 rd1 e fun s' I' => thn (hb E pins s' σ H1 τ G1 Q hE ⟨I', I1.st, I1.ab⟩ q1) fun _ _ z => z.trans m1
  · rename_i e
    exact tru2 pins s1 σ H1 G1 x d v false _ I1.inv I1.ab r1 rd1 e fun s' I' => ⟨x, H1, d, G1, I', m1, r1, rd1, q1⟩
  · exact q1.elim
theorem pe2_or (ha : PE2 X a ta) (hb : PE2 X (.BoolOp .Or (b :: rest) pos) tb) : PE2 X (.BoolOp .Or (a :: b :: rest) pos) (dOrV ta tb) := by
  intro E pins s σ H τ G Q hE I h
  refine BoolOp_or (thnE ha hE I h fun x H1 d G1 v s1 I1 m1 r1 rd1 q1 => ?_)
  try dsimp only at q1
  split at q1
  · rename_i e
    exact tru2 pins s1 σ H1 G1 x d v true _ I1.inv I1.ab r1 rd1 e fun s' I' => ⟨x, H1, d, G1, I', m1, r1, rd1, q1⟩
  · rename_i e
    exact tru2 pins s1 σ H1 G1 x d v false _ I1.inv I1.ab r1 rd1 e fun s' I' => thn (hb E pins s' σ H1 τ G1 Q hE ⟨I', I1.st, I1.ab⟩ q1) fun _ _ z => z.trans m1
  · exact q1.elim
theorem pe2_not (ha : PE2 X a ta) : PE2 X (.UnaryOp .Not a pos) (dNotV ta) := by
  intro E pins s σ H τ G Q hE I h
  refine UnaryOp_ (thnE ha hE I h fun x H1 d G1 v s1 I1 m1 r1 rd1 q1 => ?_)
  try dsimp only at q1
  split at q1
  · rename_i k e
    exact not_of (tru2 pins s1 σ H1 G1 x d v k _ I1.inv I1.ab r1 rd1 e fun s' I' => ⟨.bl (!k), H1, .bl (!k), G1, I', m1, rfl, .bl _, q1⟩)
  · exact q1.elim
theorem pe2_if (hc : PT2 X c tA) (ha : PE2 X a ta) (hb : PE2 X b tb) : PE2 X (.IfExp c a b pos) (dIf tA ta tb) := by
  intro E pins s σ H τ G Q hE I h
  refine wpAny_IfExp (thnT hc hE I h fun d H1 G1 s1 I1 m1 q1 => ?_)
  cases d with
  | true => exact thn (ha E pins s1 σ H1 τ G1 Q hE I1 (by simpa using q1)) fun _ _ z => z.trans m1
  | false => exact thn (hb E pins s1 σ H1 τ G1 Q hE I1 (by simpa using q1)) fun _ _ z => z.trans m1

/-! ### argument lists, displays -/
variable {e : Expr} {es : List Expr} {te : TE2} {t : TA2}
theorem pa2_nil : PA2 X [] dNil := fun _ _ _ _ _ H _ G Q _ I h => Calls.spliced_nil ⟨[], H, [], G, I.inv, .refl I.ab, .nil, .nil, h⟩
theorem pa2_cons (ha : PE2 X e te) (hr : PA2 X es t) (hs : starEach (e :: es) X.env = (false, eval e X.env) :: starEach es X.env := by rfl) : PA2 X (e :: es) (dCons te t) := by
  intro pos E pins s σ H τ G Q hE I h
  rw [hs]
  show wpAny _ _ (spliced ((false, eval e X.env) :: backTo pos (starEach es X.env))) _ _ s
  refine Calls.spliced_cons (thnE ha hE I h fun x H1 d G1 u s1 I1 m1 r1 rd1 q1 => ?_)
  exact thn (hr pos E pins s1 σ H1 τ G1 _ hE I1 q1) fun us s2 ⟨xs, H2, ds, G2, I2', m2, r2, rd2, q2⟩ => ⟨x :: xs, H2, d :: ds, G2, I2', m1.trans m2, .cons r1 r2, .cons (rd1.mono (m2.kp I1.ab)) rd2, q2⟩
theorem thnA {pins : List (Addr × Obj)} {σ : L2.St} {H : Hp} {τ : St2} {G : Gp} {s : Shared} {E : XK2} {R : List D → Gp → Prop} {Q : List Value → Shared → Prop} (ha : PA2 X es t) (pos : Pos) (hE : Lk X E) (I : I2 X pins σ H τ G s) (h : t E τ G R)
    (k : ∀ vs H1 ds G1 us s1, I2 X pins σ H1 τ G1 s1 → Mv X.K H G H1 G1 → Vals vs us → RepDs X.K H1 vs ds → R ds G1 → Q us s1) : wpAny (model X.prog X.w) X.A (spliced (backTo pos (starEach es X.env))) Q X.xe s :=
  thn (ha pos E pins s σ H τ G R hE I h) fun us s1 ⟨vs, H1, ds, G1, I1, m, r, rd, q⟩ => k vs H1 ds G1 us s1 (I.mv I1 m) m r rd q
theorem pe2_tup {x1} (h : PA2 X es t) : PE2 X (.Tuple es x1 pos) (dTup t) := by
  intro E pins s σ H τ G Q hE I hq
  refine wpAny_Tuple_spliced (thnA h pos hE I hq fun xs H1 ds G1 us s1 I1 m1 r rd ⟨z, q⟩ => ⟨by rw [← r.length, rd.length, sizeLine_eq]; exact z, ?_⟩)
  have hf : H1 s1.heap.objs.size = none := I1.inv.hok.fresh (Nat.le_refl _)
  refine ⟨.ref s1.heap.objs.size, upd H1 s1.heap.objs.size (.tup xs), .tup ds, G1, I1.inv.laid (t' := s1.toks) (fun b u e => Heap.get?_push_of_some _ e) (Nat.le_refl _) ?_, m1.trans (.hid I1.ab hf), rfl, ?_, q⟩
  · exact ⟨by rw [rd.length, sizeLine_eq]; exact z, us, r, ⟨_, Heap.get?_push_size _ rfl, rfl, _, rfl⟩⟩
  · exact .tup upd_same (rd.mono (.new hf))
theorem pe2_lst (h : PA2 X es t) : PE2 X (.List es pos) (dLst t) := by
  intro E pins s σ H τ G Q hE I hq
  refine wpAny_List_spliced (thnA h pos hE I hq fun xs H1 ds G1 us s1 I1 m1 r rd ⟨z, q⟩ => ⟨by rw [← r.length, rd.length, sizeLine_eq]; exact z, ?_⟩)
  have hf : H1 s1.heap.objs.size = none := I1.inv.hok.fresh (Nat.le_refl _)
  refine ⟨.ref s1.heap.objs.size, upd H1 s1.heap.objs.size (.lst xs), .ref _, updG G1 s1.heap.objs.size (.lst ds), I1.inv.laid (t' := s1.toks) (fun b u e => Heap.get?_push_of_some _ e) (Nat.le_refl _) ?_, m1.trans (.newL I1.ab hf rd), rfl, .ref _, q _ (I1.ab.free hf)⟩
  exact ⟨by rw [rd.length, sizeLine_eq]; exact z, us, 0, r, Heap.get?_push_size _ rfl⟩

/-! ### calls -/
/-- a def's promise over the seen things, as one over values -/
def spOf (K : PySem.W.Frag) (sp : Sp2) : Sp := fun vs H Q _ => ∃ ds G Q2, RepDs K H vs ds ∧ AbH K H G ∧ sp ds G Q2 (fun _ _ => False) ∧ ∀ d G' v H', Q2 d G' → Mv K H G H' G' → RepD K H' v d → Q v H'
variable {k : Nat} {f : Addr} {fd : FuncData} {ps : List Str} {sp : Sp2} {x : Str} {p : Pos} {r : List D → Gp → DK → Prop} {id : String}
theorem pe2_call (F : FnOk X.prog X.w X.K X.mg X.base CX0 k f fd ps (spOf X.K sp)) (hr : Room k X.A) (hg : Gl X x) (hm : X.mg x = some (.ref f)) (hk : PySem.W.keepIn X.K (.ref f) = true) (hb : Binds X.K fd ps [])
    (ha : PA2 X (e :: es) t) (hdb : (x == ("__debug__" : Str)) = false := by decide) (he : starEach (e :: es) X.env = (false, eval e X.env) :: starEach es X.env := by rfl) (hpl : (backTo pos (starEach es X.env)).any (·.1) = false := by rfl) :
    PE2 X (.Call (.Name x p) (e :: es) [] pos) (fun E τ G Q => dCall (fun ds G1 Q1 _ => sp ds G1 Q1 fun _ _ => False) t E τ G Q) := by
  intro E pins s σ H τ G Q hE I h
  refine wpAny_Call_Name_kw (ld_glob I.inv hg hm ?_ hdb)
  refine PySem.W.callWith_K (h₀ := X.base) I.inv.ok.mod.kin hk (thnA ha pos hE I h fun vs H1 ds G1 us s1 I1 m1 r rd q => ⟨I1.inv.kIn, ?_⟩) he hpl
  refine thn (run_fn F hr hb .nil pass0 I1.inv r (Q := Rch X.K H1 G1 Q) ?_) fun _ _ z => (EP2.of z).trans m1
  rw [List.append_nil]
  exact ⟨ds, G1, Q, rd, I1.ab, q, fun d G' v H' q' m' rd' => ⟨d, G', m', rd', q'⟩⟩
theorem pe2_callB (hc : CallR2 X (.builtin id) r) (hg : Gl X x) (hm : X.mg x = none) (hv : bootBuiltins x = some (.builtin id)) (ha : PA2 X (e :: es) t) (hn : x ≠ "__name__" := by decide) (hdb : (x == ("__debug__" : Str)) = false := by decide)
    (he : starEach (e :: es) X.env = (false, eval e X.env) :: starEach es X.env := by rfl) (hpl : (backTo pos (starEach es X.env)).any (·.1) = false := by rfl) : PE2 X (.Call (.Name x p) (e :: es) [] pos) (dCB r t) := by
  intro E pins s σ H τ G Q hE I h
  refine wpAny_Call_Name_kw (ld_blt I.inv hg hm hv ?_ hn hdb)
  exact PyProof.Rows.callWith_builtin1 (thnA ha pos hE I h fun vs H1 ds G1 us s1 I1 m1 r1 rd1 q1 => thn (hc pins s1 σ H1 G1 vs ds us Q I1.inv I1.ab r1 rd1 q1) fun _ _ z => z.trans m1) he hpl

/-! ### blocks and small statements -/
variable {st : Stmt} {sts : List Stmt} {u v : TS2}
theorem pss2_nil : PSs2 X [] dNext := fun _ _ _ σ H τ G _ _ I h => wpAny_execs_nil ⟨σ, H, τ, G, I, .refl I.ab, h⟩
theorem pss2_cons (h1 : PS2 X st u) (h2 : PSs2 X sts v) : PSs2 X (st :: sts) (dSeq u v) := by
  intro E pins s σ H τ G D hE I h
  refine wpAny_execs_cons (thn (h1 E pins s σ H τ G { D with nx := v E D } hE I h) fun f s1 q => ?_)
  cases f with
  | next =>
    obtain ⟨σ', H', τ', G', I', m, q⟩ := q
    exact thn (h2 E pins s1 σ' H' τ' G' D hE I' q) fun _ _ z => z.trans m
  | ret v => exact q
  | brk => exact q
  | cont => exact q
theorem pss2_one (h1 : PS2 X st u) : PSs2 X [st] u := by
  intro E pins s σ H τ G D hE I h
  refine wpAny_execs_cons (thn (h1 E pins s σ H τ G D hE I h) fun f s1 q => ?_)
  cases f with
  | next => exact wpAny_execs_nil q
  | ret v => exact q
  | brk => exact q
  | cont => exact q
theorem ps2_ret (he : PE2 X e te) : PS2 X (.Return (some e) pos) (dRet te) := by
  intro E pins s σ H τ G D hE I h
  exact wpAny_Return_some (thn (he E pins s σ H τ G _ hE I h) fun v s1 ⟨x, H1, d, G1, I1, m, r1, rd, q1⟩ => ⟨x, σ, H1, d, G1, I1, m, r1, rd, q1⟩)
theorem ps2_if {sa sb : List Stmt} (hc : PT2 X c tA) (ha : PSs2 X sa u) (hb : PSs2 X sb v) : PS2 X (.If c sa sb pos) (dIfS tA u v) := by
  intro E pins s σ H τ G D hE I h
  refine wpAny_If (thnT hc hE I h fun d H1 G1 s1 I1 m1 q1 => ?_)
  cases d with
  | true => exact thn (ha E pins s1 σ H1 τ G1 D hE I1 (by simpa using q1)) fun _ _ z => z.trans m1
  | false => exact thn (hb E pins s1 σ H1 τ G1 D hE I1 (by simpa using q1)) fun _ _ z => z.trans m1

/-! ### targets -/
def PG2 (X : Cx) (target : Expr) (t : TG2) : Prop :=
  ∀ (E : XK2) (pins : List (Addr × Obj)) (s : Shared) (σ : L2.St) (H : Hp) (τ : St2) (G : Gp) (w : V) (d : D) (u : Value) (Q : St2 → Gp → Prop), Lk X E → I2 X pins σ H τ G s → RelV w u → RepD X.K H w d → t E d τ G Q →
    wpAny (model X.prog X.w) X.A (assign target X.env u) (fun _ s' => ∃ σ' H' τ' G', I2 X pins σ' H' τ' G' s' ∧ Mv X.K H G H' G' ∧ Q τ' G') X.xe s
def PGs2 (X : Cx) (ts : List Expr) (t : TGs2) : Prop :=
  ∀ (E : XK2) (pins : List (Addr × Obj)) (s : Shared) (σ : L2.St) (H : Hp) (τ : St2) (G : Gp) (ws : List V) (ds : List D) (us : List Value) (Q : St2 → Gp → Prop), Lk X E → I2 X pins σ H τ G s → Vals ws us → RepDs X.K H ws ds → t E ds τ G Q →
    wpAny (model X.prog X.w) X.A (assignInOrder ((assignEach ts X.env).map (·.2)) us) (fun _ s' => ∃ σ' H' τ' G', I2 X pins σ' H' τ' G' s' ∧ Mv X.K H G H' G' ∧ Q τ' G') X.xe s
theorem pg2_name {i : Nat} {x : Str} (hN : X.N.Nodup) (hi : X.N[i]? = some x) (hx : Loc X.env.scope x) (hf : X.fn x = true ∨ X.env.scope.names.lookup x = some .local := by first | exact .inl rfl | exact .inr rfl | assumption) : PG2 X (.Name x pos) (gName i) := by
  intro E pins s σ H τ G w d u Q hE I r rd h
  exact wpAny_assign_Name (store_ok I.inv hN hi hx r (fun s' I' => ⟨_, H, _, G, ⟨I', I.st.set i rd, I.ab⟩, .refl I.ab, h⟩) hf)
theorem pgs2_nil : PGs2 X [] gNil := by
  intro E pins s σ H τ G ws ds us Q hE I r rd h
  unfold gNil at h
  split at h
  · have e := rd.zero
    subst e
    cases r
    exact assignInOrder_nil ⟨σ, H, τ, G, I, .refl I.ab, h⟩
  · exact h.elim
theorem pgs2_cons {t : TG2} {u : TGs2} (h1 : PG2 X e t) (h2 : PGs2 X es u)
    (hs : (assignEach (e :: es) X.env).map (·.2) = assign e X.env :: (assignEach es X.env).map (·.2) := by rfl) : PGs2 X (e :: es) (gCons t u) := by
  intro E pins s σ H τ G ws ds us Q hE I r rd h
  unfold gCons at h
  split at h
  · cases rd with
    | cons rd1 rd2 =>
      cases r with
      | cons r1 r2 =>
        rw [hs]
        refine assignInOrder_cons (thn (h1 E pins s σ H τ G _ _ _ _ hE I r1 rd1 h) fun _ s1 ⟨σ1, H1, τ1, G1, I1, m1, q1⟩ => ?_)
        exact thn (h2 E pins s1 σ1 H1 τ1 G1 _ _ _ Q hE I1 r2 (rd2.mono (m1.kp I.ab)) q1) fun _ _ ⟨σ2, H2, τ2, G2, I2', m2, q2⟩ => ⟨σ2, H2, τ2, G2, I2', m1.trans m2, q2⟩
  · exact h.elim
theorem pg2_tup {k : Nat} {t : TGs2} {n : Nat} (hc : X.calm = true) (h : PGs2 X es t) (hgl : ∀ E ds τ G Q, t E ds τ G Q → ds.length = n)
    (hn : (assignEach es X.env).length = n := by rfl) (hst : (assignEach es X.env).findIdx? (·.1) = none := by rfl) : PG2 X (.Tuple es k pos) (gTup t) := by
  intro E pins s σ H τ G w d u Q hE I r rd hw
  unfold gTup at hw
  split at hw
  · cases rd with
    | tup hq rs =>
      cases r
      obtain ⟨its, rv, ht, hz⟩ := I.inv.tuple (.of hq)
      refine assign_Tuple_tuple (I.inv.ok.hd hc) ht (by rw [hn, List.size_toArray, ← rv.length, rs.length]; exact (hgl _ _ _ _ _ hw).symm) hst fun h' hx => ?_
      have I1 : Inv X pins σ H { s with heap := h' } := I.inv.kept (t' := s.toks) fun b o e => hx b o (Nat.ne_of_lt (Heap.lt_size e)) e
      exact h E pins _ σ H τ G _ _ _ Q hE ⟨I1, I.st, I.ab⟩ (by simpa using rv) rs hw
  · exact hw.elim
theorem glen_nil : ∀ E ds τ G Q, gNil E ds τ G Q → ds.length = 0 := by
  intro E ds τ G Q h
  cases ds with
  | nil => rfl
  | cons _ _ => exact h.elim
theorem glen_cons {t : TG2} {u : TGs2} {n : Nat} (h : ∀ E ds τ G Q, u E ds τ G Q → ds.length = n) (hm : ∀ E d τ G (Q Q' : St2 → Gp → Prop), t E d τ G Q → (∀ τ' G', Q τ' G' → Q' τ' G') → t E d τ G Q') (hx : ∀ E d τ G, ¬ t E d τ G fun _ _ => False) :
    ∀ E ds τ G Q, gCons t u E ds τ G Q → ds.length = n + 1 := by
  intro E ds τ G Q q
  cases ds with
  | nil => exact q.elim
  | cons d ds =>
    by_cases hl : ds.length = n
    · rw [List.length_cons, hl]
    · exact absurd (hm E d τ G _ (fun _ _ => False) q fun τ' G' z => hl (h _ _ _ _ _ z)) (hx E d τ G)
theorem ps2_asg {tg : Expr} {g : TG2} (he : PE2 X e te) (hg : PG2 X tg g) (hs : swapsWithSole [tg] e pos.line X.env = pure false := by rfl) (hw : swappedStores [tg] e X.env = pure none := by rfl)
    (h1 : (assignEach [tg] X.env).map (·.2) = [assign tg X.env] := by rfl) : PS2 X (.Assign [tg] e pos) (dAsg te g) := by
  intro E pins s σ H τ G D hE I h
  refine wpAny_Assign_stores (thnE he hE I h fun x H1 d G1 v s1 I1 m1 r1 rd1 q1 => ?_) hs hw
  rw [h1]
  exact thn (hg E pins s1 σ H1 τ G1 x d v _ hE I1 r1 rd1 q1) fun _ s2 ⟨σ2, H2, τ2, G2, I2', m2, q2⟩ => ⟨σ2, H2, τ2, G2, I2', m1.trans m2, q2⟩
theorem ps2_set {i : Nat} {x : Str} {pos' : Pos} (hN : X.N.Nodup) (hi : X.N[i]? = some x) (hx : Loc X.env.scope x) (he : PE2 X e te) (hs : swapsWith e (some (.Name x pos')) pos.line X.env = pure false := by rfl) (hf : X.fn x = true ∨ X.env.scope.names.lookup x = some .local := by first | exact .inl rfl | exact .inr rfl | assumption) :
    PS2 X (.Assign [.Name x pos'] e pos) (dAsg te (gName i)) := by
  intro E pins s σ H τ G D hE I h
  refine wpAny_Assign_Name (thnE he hE I h fun y H1 d G1 v s1 I1 m1 r1 rd1 q1 => ?_) hs
  exact store_ok I1.inv hN hi hx r1 (fun s2 I2' => ⟨_, H1, _, G1, ⟨I2', I1.st.set i rd1, I1.ab⟩, m1, q1⟩) hf
theorem ps2_expr (he : PE2 X e te) (hs : swapsWith e none pos.line X.env = pure false := by rfl) : PS2 X (.Expr e pos) (dExpr te) := by
  intro E pins s σ H τ G D hE I h
  exact wpAny_Expr_any (thnE he hE I h fun y H1 d G1 v s1 I1 m1 r1 rd1 q1 => ⟨σ, H1, τ, G1, I1, m1, q1⟩) I.inv.quiet hs
end
end K2

end
section
namespace K2
open PySem PySem.Spec PyProof.Rows L2
set_option autoImplicit false

/-! ### walks -/
def Walk2 (K : PySem.W.Frag) (J : It) (H' : Hp) (ds : List D) (ok : Gp → Prop) : Prop :=
  ∀ i H1 G1, Kp H' H1 → AbH K H1 G1 → ok G1 → (∀ d, ds[i]? = some d → J.go i H1 ∧ ∀ x H2, J.yld i H1 x H2 → RepD K H2 x d ∧ Mv K H1 G1 H2 G1) ∧ (ds.length ≤ i → J.stop i H1)
def PIE2 (X : Cx) (pins : List (Addr × Obj)) (σ : L2.St) (tg : Expr) (H : Hp) (G : Gp) (R : List D → (Gp → Prop) → Gp → Prop) (itv : Value) (s2 : Shared) : Prop :=
  ∃ (it : Addr) (fp : List Addr) (tn : Nat → Heap → Prop) (J : It) (H' : Hp) (G' : Gp) (ds : List D) (ok : Gp → Prop), itv = .ref it ∧ Inv X pins σ H' s2 ∧ Mv X.K H G H' G' ∧ Turn X.prog X.w X.K tg J fp it tn ∧ tn 0 s2.heap ∧ (∀ b ∈ fp, FpOk X pins H' b) ∧
    Walk2 X.K J H' ds ok ∧ R ds ok G'
def PI2 (X : Cx) (tg iter : Expr) (wi : TI2) : Prop :=
  ∀ (E : XK2) (pins : List (Addr × Obj)) (s : Shared) (σ : L2.St) (H : Hp) (τ : St2) (G : Gp) (R : List D → (Gp → Prop) → Gp → Prop), Lk X E → I2 X pins σ H τ G s → wi E τ G R →
    wpAny (model X.prog X.w) X.A (eval iter X.env) (fun v s1 => wpAny (model X.prog X.w) X.A (pyIter v) (PIE2 X pins σ tg H G R) X.xe s1) X.xe s

section
variable {X : Cx} {tg : Expr} {a b : Expr} {ta tb : TE2} {pos p : Pos}
theorem list_it {pins : List (Addr × Obj)} {σ : L2.St} {H H1 : Hp} {G G1 : Gp} {s1 : Shared} {l : Addr} {vs : List V} {ds : List D} {ok : Gp → Prop} {R : List D → (Gp → Prop) → Gp → Prop} (I1 : Inv X pins σ H1 s1) (m : Mv X.K H G H1 G1) (hq : SqL X.K H1 l vs)
    (hk : ∀ H2 G2, Kp H1 H2 → AbH X.K H2 G2 → ok G2 → ∃ ws, SqL X.K H2 l ws ∧ RepDs X.K H2 ws ds) (q : R ds ok G1) : wpAny (model X.prog X.w) X.A (pyIter (.ref l)) (PIE2 X pins σ tg H G R) X.xe s1 := by
  obtain ⟨its, rv, pl, hz⟩ := I1.list hq
  refine wpAny_pyIter_list pl.isList ?_
  refine ⟨s1.heap.objs.size, [s1.heap.objs.size], _, _, H1, G1, ds, ok, rfl, I1.kept (t' := s1.toks) fun b o e => Heap.get?_push_of_some _ e, m, turn_list l _, ⟨_, Heap.get?_push_size _ rfl, rfl, rfl⟩, fun b hb => ?_, fun i H2 G2 k ab o => ?_, q⟩
  · have e : b = s1.heap.objs.size := by simpa using hb
    subst e
    exact I1.fpOk (Nat.le_refl _) (I1.hok.fresh (Nat.le_refl _))
  · obtain ⟨ws, hw, rd⟩ := hk H2 G2 k ab o
    refine ⟨fun d hd => ?_, fun hl => ⟨ws, hw, by rw [rd.length]; exact hl⟩⟩
    obtain ⟨v, hv, r⟩ := rd.get hd
    refine ⟨⟨ws, v, hw, hv⟩, fun x H3 ⟨e, y⟩ => ?_⟩
    subst e
    have := y ws hw
    rw [hv] at this
    cases this
    exact ⟨r, .refl ab⟩
theorem tup_it {pins : List (Addr × Obj)} {σ : L2.St} {H H1 : Hp} {G G1 : Gp} {s1 : Shared} {l : Addr} {vs : List V} {ds : List D} {R : List D → (Gp → Prop) → Gp → Prop} (I1 : Inv X pins σ H1 s1) (m : Mv X.K H G H1 G1) (hq : SqT X.K H1 l vs) (rd : RepDs X.K H1 vs ds)
    (q : R ds (fun _ => True) G1) : wpAny (model X.prog X.w) X.A (pyIter (.ref l)) (PIE2 X pins σ tg H G R) X.xe s1 := by
  obtain ⟨its, rv, pl, hz⟩ := I1.tuple hq
  refine wpAny_pyIter_tuple (show s1.heap.IsTuple l its.toArray from pl) ?_
  refine ⟨s1.heap.objs.size, [s1.heap.objs.size], _, _, H1, G1, ds, _, rfl, I1.kept (t' := s1.toks) fun b o e => Heap.get?_push_of_some _ e, m, turn_tuple l _, ⟨_, Heap.get?_push_size _ rfl, rfl, rfl⟩, fun b hb => ?_, fun i H2 G2 k ab _ => ?_, q⟩
  · have e : b = s1.heap.objs.size := by simpa using hb
    subst e
    exact I1.fpOk (Nat.le_refl _) (I1.hok.fresh (Nat.le_refl _))
  · have hw := k.sqT hq
    have rd2 := rd.mono k
    refine ⟨fun d hd => ?_, fun hl => ⟨vs, hw, by rw [rd.length]; exact hl⟩⟩
    obtain ⟨v, hv, r⟩ := rd2.get hd
    refine ⟨⟨vs, v, hw, hv⟩, fun x H3 ⟨e, y⟩ => ?_⟩
    subst e
    have := y vs hw
    rw [hv] at this
    cases this
    exact ⟨r, .refl ab⟩
theorem pi2_seq (ha : PE2 X a ta) : PI2 X tg a (iSeq ta) := by
  intro E pins s σ H τ G R hE I h
  refine thnE ha hE I h fun x H1 d G1 v s1 I1 m1 r1 rd1 q1 => ?_
  cases rd1 with
  | tup hq rs => cases r1; exact tup_it I1.inv m1 (.of hq) rs q1
  | rol hq rs => cases r1; exact list_it I1.inv m1 hq.sq (fun H2 G2 k ab _ => ⟨_, (k.sqF hq).sq, rs.mono k⟩) q1
  | ref p =>
    cases r1
    dsimp only at q1
    split at q1
    · rename_i ds e
      obtain ⟨vs, hv, rs⟩ := I1.ab.lst e
      refine list_it I1.inv m1 (.of hv) (fun H2 G2 k ab o => ?_) q1
      obtain ⟨ws, hw, rw'⟩ := ab.lst o
      exact ⟨ws, .of hw, rw'⟩
    · exact q1.elim
  | non => exact q1.elim
  | bl _ => exact q1.elim
  | int _ => exact q1.elim
  | str _ => exact q1.elim
theorem rng_it {pins : List (Addr × Obj)} {σ : L2.St} {H H1 : Hp} {G G1 : Gp} {s : Shared} {R : List D → (Gp → Prop) → Gp → Prop} {lo hi : Int} {t u v : Tok} {tk : Nat} (I : Inv X pins σ H1 s) (m : Mv X.K H G H1 G1) (h1 : -(2 ^ 62) ≤ lo) (h2 : lo < 2 ^ 62) (h3 : -(2 ^ 62) ≤ hi) (h4 : hi < 2 ^ 62)
    (q : R (rangeD lo (hi - lo).toNat) (fun _ => True) G1) : wpAny (model X.prog X.w) X.A (pyIter (.ref s.heap.objs.size)) (PIE2 X pins σ tg H G R) X.xe { s with heap := s.heap.push { cls := .type "range", data := .fields #[.int lo t, .int hi u, .int 1 v] }, toks := tk } := by
  refine thn (range_it (tg := tg) I h1 h2 h3 h4 (R := fun J H' => J = Itr lo (hi - lo).toNat ∧ H' = H1) ⟨rfl, rfl⟩) fun itv s2 ⟨it, fp, tn, J, H', e, I2', T, st, fo, eJ, eH⟩ => ?_
  subst eJ; subst eH
  refine ⟨it, fp, tn, _, H', G1, _, _, e, I2', m, T, st, fo, fun i H2 G2 k ab _ => ⟨fun d hd => ?_, fun hl => ?_⟩, q⟩
  · unfold rangeD at hd
    rw [List.getElem?_map] at hd
    cases hi' : (List.range (hi - lo).toNat)[i]? with
    | none => rw [hi'] at hd; cases hd
    | some j =>
      rw [hi'] at hd
      obtain ⟨hlt, ej⟩ := List.getElem?_eq_some_iff.mp hi'
      rw [List.length_range] at hlt
      rw [List.getElem_range] at ej
      subst ej
      cases hd
      refine ⟨hlt, fun x H3 ⟨e1, e2⟩ => ?_⟩
      subst e1; subst e2
      exact ⟨.int _, .refl ab⟩
  · unfold rangeD at hl
    rw [List.length_map, List.length_range] at hl
    exact hl
theorem pi2_range1 (hg : Gl X "range") (hm : X.mg "range" = none) (ha : PE2 X a ta) (hs : starEach [a] X.env = [(false, eval a X.env)] := by rfl) : PI2 X tg (.Call (.Name "range" p) [a] [] pos) (iRng1 ta) := by
  intro E pins s σ H τ G R hE I h
  have hA : PA2 X [a] (dCons ta dNil) := pa2_cons ha pa2_nil hs
  refine Call_ (ld_blt I.inv hg hm boot_range (PyProof.Rows.callWith_type1 (thnA hA pos hE I (R := fun ds G1 => match ds with | [.int n] => -(2 ^ 62) ≤ n ∧ n < 2 ^ 62 ∧ R (rangeD 0 n.toNat) (fun _ => True) G1 | _ => False) ?_ fun vs H1 ds G1 us s1 I1 m1 r1 rd1 q1 => ?_) hs rfl))
  · show ta E τ G _
    have e : (fun (x : D) (G1 : Gp) => match [x] with | [.int n] => -(2 ^ 62) ≤ n ∧ n < 2 ^ 62 ∧ R (rangeD 0 n.toNat) (fun _ => True) G1 | _ => False) = fun x G1 => match x with | .int n => -(2 ^ 62) ≤ n ∧ n < 2 ^ 62 ∧ R (rangeD 0 n.toNat) (fun _ => True) G1 | _ => False := by
      funext x G1; cases x <;> rfl
    exact e ▸ h
  · split at q1
    · rename_i n
      obtain ⟨w, rfl, rw1⟩ := rd1.one
      cases rw1
      obtain ⟨u, rfl, ru⟩ := r1.one
      obtain ⟨t, rfl⟩ := ru
      obtain ⟨q1, q2, q⟩ := q1
      exact call_range_1 (rng_it I1.inv m1 (by omega) (by omega) q1 q2 (by simpa using q))
    · exact q1.elim

/-! ### for -/
theorem ps2_for {iter : Expr} {body : List Stmt} {wi : TI2} {g : TG2} {t : TS2} (hp : PassesOwn (model X.prog X.w) X.A X.env X.xe) (hc : X.calm = true) (hi : PI2 X tg iter wi) (hg : PG2 X tg g) (hb : PSs2 X body t)
    (hs : ∀ x, foldedSetIterable iter X.env x = pure x := by intro _; rfl) : PS2 X (.For tg iter body [] pos) (dFor wi g t) := by
  intro E pins s σ H τ G D hE I h
  refine wpAny_For (thn (hi E pins s σ H τ G _ hE I h) fun v s1 h1 => thn h1 fun itv s2 h2 => ?_) hs
  obtain ⟨it, fp, tn, J, H2, G2, ds, ok, e, I2', m2, T, st2, f2, wk, q⟩ := h2
  subst e
  have stat : ∀ {H' : Hp}, (∀ b ∈ fp, H' b = none) → ∀ b ∈ fp, FpOk X pins H' b := fun hn b hb => ⟨hn b hb, (f2 b hb).2⟩
  refine codeAny_forLoop_any (fun n s' => ∃ i σ' H' τ' G', I2 X pins σ' H' τ' G' s' ∧ Mv X.K H G H' G' ∧ Kp H2 H' ∧ tn i s'.heap ∧ (∀ b ∈ fp, H' b = none) ∧ n = ds.length - i ∧ i ≤ ds.length ∧ forGo g t ok (ds.drop i) E D τ' G') ?_ ds.length
    ⟨0, σ, H2, τ, G2, I.mv I2' m2, m2, .refl _, st2, fun b hb => (f2 b hb).1, rfl, Nat.zero_le _, q⟩
  rintro n s3 ⟨i, σ3, H3, τ3, G3, I3, m3, k3, st3, fr3, rfl, hle, w3⟩
  by_cases hlt : i < ds.length
  · rw [List.drop_eq_getElem_cons hlt] at w3
    obtain ⟨ok3, w3⟩ := w3
    obtain ⟨go, yl⟩ := (wk i H3 G3 k3 I3.ab ok3).1 ds[i] (by simp [hlt])
    refine wpAny_passesOwn hp (thn (T.item X rfl rfl rfl hc i pins s3 σ3 H3 X.xe I3.inv (stat fr3) st3 go) fun r s4 ⟨u, hr, h4⟩ => ?_)
    subst hr
    refine wpAny_passesOwn hp (thn h4 fun _ s5 ⟨x, H5, I5, r5, y5, st5, fr5⟩ => ?_)
    obtain ⟨rd5, m5⟩ := yl x H5 y5
    have I5' := I5.pinned (stat fr5) (T.obj _ _ st5)
    have J5 : I2 X (pins ++ pinsAt fp s5.heap) σ3 H5 τ3 G3 s5 := ⟨I5', I3.st.mono (m5.kp I3.ab), m5.ab⟩
    refine wpAny_passesOwn hp (thn (hg E _ s5 σ3 H5 τ3 G3 x ds[i] u _ hE J5 r5 rd5 w3) fun _ s6 ⟨σ6, H6, τ6, G6, I6, m6, q6⟩ => ?_)
    refine wpAny_passesOwn hp (thn (hb E _ s6 σ6 H6 τ6 G6 _ hE I6 q6) fun f s7 q7 => ?_)
    have again : ∀ {σ7 : L2.St} {H7 : Hp} {τ7 : St2} {G7 : Gp}, I2 X (pins ++ pinsAt fp s5.heap) σ7 H7 τ7 G7 s7 → Mv X.K H6 G6 H7 G7 → forGo g t ok (ds.drop (i + 1)) E D τ7 G7 →
        ∃ m, m < ds.length - i ∧ ∃ i σ' H' τ' G', I2 X pins σ' H' τ' G' s7 ∧ Mv X.K H G H' G' ∧ Kp H2 H' ∧ tn i s7.heap ∧ (∀ b ∈ fp, H' b = none) ∧ m = ds.length - i ∧ i ≤ ds.length ∧ forGo g t ok (ds.drop i) E D τ' G' := fun {σ7 H7 τ7 G7} I7 m7 n7 => by
      have mm := m5.trans (m6.trans m7)
      refine ⟨ds.length - (i + 1), by omega, i + 1, σ7, H7, τ7, G7, ⟨I7.inv.unpinned, I7.st, I7.ab⟩, m3.trans mm, k3.trans (mm.kp I3.ab), T.keep _ _ _ st5 fun b hb o e => (I7.inv.pin (b, o) (List.mem_append_right _ (List.mem_append_right _ (mem_pinsAt hb e)))).1, fun b hb => ?_, rfl, hlt, n7⟩
      obtain ⟨o, e, d⟩ := T.obj _ _ st5 b hb
      exact (I7.inv.pin (b, o) (List.mem_append_right _ (List.mem_append_right _ (mem_pinsAt hb e)))).2.1
    cases f with
    | next => obtain ⟨σ7, H7, τ7, G7, I7, m7, n7⟩ := q7; exact again I7 m7 n7
    | cont => obtain ⟨σ7, H7, τ7, G7, I7, m7, n7⟩ := q7; exact again I7 m7 n7
    | brk => obtain ⟨σ7, H7, τ7, G7, I7, m7, q7⟩ := q7; exact ⟨σ7, H7, τ7, G7, ⟨I7.inv.unpinned, I7.st, I7.ab⟩, m3.trans (m5.trans (m6.trans m7)), q7⟩
    | ret v => obtain ⟨x7, σ7, H7, d7, G7, I7, m7, r7, rd7, q7⟩ := q7; exact ⟨x7, σ7, H7, d7, G7, I7.unpinned, m3.trans (m5.trans (m6.trans m7)), r7, rd7, q7⟩
  · have hn : ds.length ≤ i := by omega
    rw [List.drop_eq_nil_of_le hn] at w3
    obtain ⟨ok3, qn⟩ := w3
    have stop := (wk i H3 G3 k3 I3.ab ok3).2 hn
    refine wpAny_passesOwn hp (thn (T.done X rfl rfl rfl hc i pins s3 σ3 H3 X.xe I3.inv (stat fr3) st3 stop) fun r s4 ⟨hr, I4⟩ => ?_)
    subst hr
    exact wpAny_execs_nil ⟨σ3, H3, τ3, G3, ⟨I4, I3.st, I3.ab⟩, m3, qn⟩
/-! ### while -/
theorem ps2_while {c : Expr} {body : List Stmt} {tc : TT2} {t : TS2} (hp : PassesOwn (model X.prog X.w) X.A X.env X.xe) (hc : PT2 X c tc) (hb : PSs2 X body t) : PS2 X (.While c body [] pos) (dWhile tc t) := by
  intro E pins s σ H τ G D hE I h
  obtain ⟨n0, w0⟩ := h
  refine wpAny_While (codeAny_whileLoop (fun n s' => ∃ σ' H' τ' G', I2 X pins σ' H' τ' G' s' ∧ Mv X.K H G H' G' ∧ whGo tc t n E D τ' G') ?_ n0 ⟨σ, H, τ, G, I, .refl I.ab, w0⟩)
  rintro n s1 ⟨σ1, H1, τ1, G1, I1, m1, w1⟩
  cases n with
  | zero => exact w1.elim
  | succ n =>
    refine wpAny_passesOwn hp (thnT hc hE I1 w1 fun b H2 G2 s2 I2' m2 q2 => ?_)
    cases b with
    | true =>
      rw [if_pos rfl] at q2 ⊢
      refine wpAny_passesOwn hp (thn (hb E pins s2 σ1 H2 τ1 G2 _ hE I2' q2) fun f s3 q3 => ?_)
      cases f with
      | next => obtain ⟨σ3, H3, τ3, G3, I3, m3, n3⟩ := q3; exact ⟨n, Nat.lt_succ_self _, σ3, H3, τ3, G3, I3, m1.trans (m2.trans m3), n3⟩
      | cont => obtain ⟨σ3, H3, τ3, G3, I3, m3, n3⟩ := q3; exact ⟨n, Nat.lt_succ_self _, σ3, H3, τ3, G3, I3, m1.trans (m2.trans m3), n3⟩
      | brk => exact q3.trans (m1.trans m2)
      | ret v => exact q3.trans (m1.trans m2)
    | false =>
      rw [if_neg Bool.false_ne_true] at q2 ⊢
      exact wpAny_execs_nil ⟨σ1, H2, τ1, G2, I2', m1.trans m2, q2⟩
end
end K2

end
section
namespace K2
open PySem PySem.Spec PyProof.Rows L2
set_option autoImplicit false

theorem sIx_eq (n d : Nat) (o : Option Int) : HT.sIx n d o = sIx n d o := by cases o <;> rfl
theorem atI_eq {α : Type} (xs : List α) (i : Int) : L2.atI xs i = K2.atI xs i := rfl
theorem RepDs.cut {K : PySem.W.Frag} {H : Hp} {vs : List V} {ds : List D} (r : RepDs K H vs ds) (lo hi : Option Int) : RepDs K H (cutV vs lo hi) (K2.cut ds lo hi) := by
  unfold cutV K2.cut
  rw [sIx_eq, sIx_eq, r.length]
  exact (r.drop _).take _
theorem RepDs.atI {K : PySem.W.Frag} {H : Hp} {vs : List V} {ds : List D} {i : Int} {d : D} (r : RepDs K H vs ds) (h : K2.atI ds i = some d) : ∃ v, L2.atI vs i = some v ∧ RepD K H v d := by
  unfold K2.atI at h
  cases e : K2.ixN ds.length i with
  | none => rw [e] at h; cases h
  | some j =>
    rw [e] at h
    obtain ⟨v, h1, h2⟩ := r.get (show ds[j]? = some d from h)
    refine ⟨v, ?_, h2⟩
    show (L2.ixN vs.length i).bind _ = _
    have e' : L2.ixN vs.length i = some j := by rw [r.length]; exact e
    rw [e']
    exact h1

section
variable {X : Cx} {a b c e : Expr} {ta tb tc te : TE2} {pos p2 : Pos}
/-! ### ints, texts, lists, tuples: + and its kin -/
theorem addL_lists {pins : List (Addr × Obj)} {s : Shared} {σ : L2.St} {H : Hp} {G : Gp} {x : V} {d : D} {v : Value} {zs : List D} (I : Inv X pins σ H s) (ab : AbH X.K H G) (rx : RelV x v) (rd : RepD X.K H x d) (hi : lstOf d G = some zs) :
    ∃ l vs its, v = .ref l ∧ Vals vs its ∧ RepDs X.K H vs zs ∧ s.heap.IsList l its.toArray ∧ vs.length ≤ sizeLine := by
  cases rd with
  | rol hq rs =>
    cases hi
    cases rx
    obtain ⟨its, rv, pl, hz⟩ := I.list hq.sq
    exact ⟨_, _, its, rfl, rv, rs, pl.isList, hz⟩
  | ref l =>
    unfold lstOf at hi
    dsimp only at hi
    cases hg : G l with
    | none => rw [hg] at hi; cases hi
    | some gg =>
      rw [hg] at hi
      cases gg with
      | lst ds =>
        cases hi
        cases rx
        obtain ⟨vs, hv, rs⟩ := ab.lst hg
        obtain ⟨its, rv, pl, hz⟩ := I.list (.of hv)
        exact ⟨_, _, its, rfl, rv, rs, pl.isList, hz⟩
      | dic _ => cases hi
  | _ => cases hi
/-- behind a rule over a ledger: all else is kept -/
theorem news_kept {pins : List (Addr × Obj)} {s : Shared} {σ : L2.St} {H : Hp} (I : Inv X pins σ H s) {m : Str → Option Value} (F0 : Fr X.base X.env.locals s.heap m) {h' : Heap} (F : Fr X.base X.env.locals h' m) (N : News X.base X.env.locals h' (allNews X.base s.heap X.env.locals)) :
    (∀ b o, b ≠ X.env.locals → s.heap.get? b = some o → h'.get? b = some o) ∧ ∀ m', s.heap.Ns X.env.locals m' → h'.Ns X.env.locals m' := by
  refine ⟨fun b o hb e => ?_, fun m' hm => ?_⟩
  · cases q : X.base.get? b with
    | some u =>
      have := I.bk b u q
      rw [e] at this; cases this
      exact F.keep b _ q
    | none => exact (N (b, o) (mem_allNews hb q e)).1
  · have e1 := hm.eq_nsMap
    have e2 := F0.ns.eq_nsMap
    rw [e1, ← e2]; exact F.ns
/-- the same, one new thing laid and tracked -/
theorem Inv.laidN {pins : List (Addr × Obj)} {s : Shared} {σ : L2.St} {H : Hp} (I : Inv X pins σ H s) {h' : Heap} {t' : Nat} {a : Addr} {o : HO} (k : ∀ b o, b ≠ X.env.locals → s.heap.get? b = some o → h'.get? b = some o) (ns : ∀ m', s.heap.Ns X.env.locals m' → h'.Ns X.env.locals m')
    (hp : s.heap.objs.size ≤ a) (new : ObjOk X.prog X.w (upd H a o) h' a o) : Inv X pins σ (upd H a o) { s with heap := h', toks := t' } := by
  have hn : H a = none := I.hok.fresh hp
  have ne : ∀ b u, H b = some u → b ≠ a := fun b u e => ne_of_none e hn
  have nL : ∀ b u, H b = some u → b ≠ X.env.locals := fun b u e => ne_of_none e I.free
  have ht : ∀ b u, s.heap.get? b = some u → b ≠ a := fun b u e z => by subst z; exact absurd (Heap.lt_size e) (Nat.not_lt.mpr hp)
  have thL : ∃ o', h'.get? X.env.locals = some o' := by
    obtain ⟨m, hm, _⟩ := I.loc
    obtain ⟨o', _, _, ho, _⟩ := ns m hm
    exact ⟨o', ho⟩
  refine I.step (g' := s.gens) (d' := s.drawn) (ch := []) (fun b hb => absurd hb (by simp)) (fun b o hL _ _ e _ => k b o hL e) (fun b o hL _ _ e _ => ⟨o.slots, k b o hL e⟩) (fun b o _ e n => by rw [upd_ne (ht b o e)]; exact n)
    (fun b o _ e => ?_) (fun b xs e => by rw [upd_ne (ne _ _ e)]; exact e) (fun b o u e => by rw [upd_ne (ne _ _ e)]; exact e) (fun b ps e => ⟨#[], by rw [upd_ne (ne _ _ e), e]; simp⟩) ns (fun b u e => ?_) I.bare
  · by_cases hb : b = X.env.locals
    · rw [hb]; exact thL
    · exact ⟨o, k b o hb e⟩
  · by_cases hb : b = a
    · subst hb; rw [upd_same] at e; cases e; exact new
    · rw [upd_ne hb] at e
      refine (I.hok b u e).stay (fun c v hc r => k c v ?_ r) (fun c z => by rw [upd_ne (ne _ _ z)]; exact z) (fun c xs z => by rw [upd_ne (ne _ _ z)]; exact z)
      rcases hc with rfl | hc
      · exact nL _ _ e
      · exact nL _ _ hc
theorem op2_add : OpR2 X (binaryOp .Add) rAdd := by
  intro pins s σ H G x y dx dy v u Q I ab rx ry dX dY q
  have lists : addL dx dy G Q → wpAny (model X.prog X.w) X.A (binaryOp .Add v u) (EP2 X pins σ H G Q) X.xe s := by
    intro q
    unfold addL at q
    split at q
    · rename_i xs ys e1 e2
      obtain ⟨hz, q⟩ := q
      obtain ⟨l, vs, its, rfl, rv, rs, hl, _⟩ := addL_lists I ab rx dX e1
      obtain ⟨b, ws, its2, rfl, rv2, rs2, hb, _⟩ := addL_lists I ab ry dY e2
      obtain ⟨m, F0⟩ := I.fr
      have hsz : its.length + its2.length ≤ sizeLine := by rw [← rv.length, ← rv2.length, rs.length, rs2.length, sizeLine_eq]; exact hz
      refine PyProof.Rows.add_lists F0 news_all hl hb (fun h' F N => ?_) hsz
      obtain ⟨kk, ns⟩ := news_kept I F0 F fun p hp => N p (List.mem_cons_of_mem _ hp)
      have hp : H s.heap.objs.size = none := I.hok.fresh (Nat.le_refl _)
      refine ⟨.ref s.heap.objs.size, upd H s.heap.objs.size (.lst (vs ++ ws)), .ref _, _, Inv.laidN (t' := s.toks) I kk ns (Nat.le_refl _) ?_, .newL ab hp (rs.append rs2), rfl, .ref _, q _ (ab.free hp)⟩
      exact ⟨by rw [List.length_append, rv.length, rv2.length]; exact hsz, its ++ its2, 0, rv.append rv2, (N _ List.mem_cons_self).1⟩
    · exact q.elim
  cases dX with
  | int i =>
    cases dY with
    | int j => exact thn (op_add pins s σ H _ _ v u (Rch X.K H G Q) I rx ry ⟨i, j, rfl, rfl, _, _, .refl ab, .int _, q⟩) fun _ _ z => .of z
    | _ => exact lists q
  | str i =>
    cases dY with
    | str j =>
      obtain ⟨hz, q⟩ := q
      exact thn (op_add_str pins s σ H _ _ v u (Rch X.K H G Q) I rx ry ⟨i, j, rfl, rfl, by rw [sizeLine_eq]; exact hz, _, _, .refl ab, .str _, q⟩) fun _ _ z => .of z
    | _ => exact lists q
  | tup h1 r1 =>
    cases dY with
    | tup h2 r2 =>
      obtain ⟨hn, hz, q⟩ := q
      refine thn (op_catT pins s σ H _ _ v u (Rch X.K H G Q) I rx ry ⟨_, _, _, _, rfl, rfl, .of h1, .of h2, ?_, ?_, fun e => ?_, fun e p hp => ?_⟩) fun _ _ z => .of z
      · rintro rfl; cases r1; exact hn rfl
      · rw [r1.length, r2.length, sizeLine_eq]; exact hz
      · subst e
        cases r2
        rw [List.append_nil] at q
        exact ⟨_, _, .refl ab, .tup h1 r1, q⟩
      · exact ⟨_, _, .hid ab hp, .tup upd_same ((r1.append r2).mono (.new hp)), q⟩
    | _ => exact lists q
  | ref l => exact lists (by rw [rAdd_ref] at q; exact q)
  | rol _ _ => exact lists (by rw [rAdd_rol] at q; exact q)
  | _ => exact lists (by cases dY <;> exact q)
theorem op2_sub : OpR2 X (binaryOp .Sub) rSub := by
  intro pins s σ H G x y dx dy v u Q I ab rx ry dX dY q
  cases dX with
  | int i =>
    cases dY with
    | int j => exact thn (op_sub pins s σ H _ _ v u (Rch X.K H G Q) I rx ry ⟨i, j, rfl, rfl, _, _, .refl ab, .int _, q⟩) fun _ _ z => .of z
    | _ => exact False.elim q
  | _ => exact False.elim q
theorem op2_mul : OpR2 X (binaryOp .Mult) rMul := by
  intro pins s σ H G x y dx dy v u Q I ab rx ry dX dY q
  cases dX with
  | int i =>
    cases dY with
    | int j => exact thn (op_mul pins s σ H _ _ v u (Rch X.K H G Q) I rx ry ⟨i, j, rfl, rfl, q.1, _, _, .refl ab, .int _, q.2⟩) fun _ _ z => .of z
    | _ => exact False.elim q
  | _ => exact False.elim q
theorem op2_mod : OpR2 X (binaryOp .Mod) rMod := by
  intro pins s σ H G x y dx dy v u Q I ab rx ry dX dY q
  cases dX with
  | int i =>
    cases dY with
    | int j => exact thn (op_mod pins s σ H _ _ v u (Rch X.K H G Q) I rx ry ⟨i, j, rfl, rfl, q.1, _, _, .refl ab, .int _, q.2⟩) fun _ _ z => .of z
    | _ => exact False.elim q
  | _ => exact False.elim q
theorem op2_fdiv : OpR2 X (binaryOp .FloorDiv) rFdiv := by
  intro pins s σ H G x y dx dy v u Q I ab rx ry dX dY q
  cases dX with
  | int i =>
    cases dY with
    | int j => exact thn (op_fdiv pins s σ H _ _ v u (Rch X.K H G Q) I rx ry ⟨i, j, rfl, rfl, ⟨q.1, q.2.1⟩, _, _, .refl ab, .int _, q.2.2⟩) fun _ _ z => .of z
    | _ => exact False.elim q
  | _ => exact False.elim q
theorem op2_lt (hu : X.A.units < cLine) : OpR2 X (compareOp .Lt) rLt := by
  intro pins s σ H G x y dx dy v u Q I ab rx ry dX dY q
  cases dX with
  | int i =>
    cases dY with
    | int j => exact thn (op_lt pins s σ H _ _ v u (Rch X.K H G Q) I rx ry ⟨i, j, rfl, rfl, _, _, .refl ab, .bl _, q⟩) fun _ _ z => .of z
    | _ => exact False.elim q
  | tup h1 r1 =>
    cases dY with
    | tup h2 r2 =>
      obtain ⟨xs, ys, e1, e2, q⟩ := q
      subst e1 e2
      have z1 := r1.ints
      have z2 := r2.ints
      subst z1 z2
      have el : ∀ xs ys : List Int, HT.lexLt xs ys = K2.lexLt xs ys := by
        intro xs
        induction xs with
        | nil => intro ys; cases ys <;> rfl
        | cons x xs ih => intro ys; cases ys with
          | nil => rfl
          | cons y ys => unfold HT.lexLt K2.lexLt; rw [ih]
      exact thn (op_ltT hu pins s σ H _ _ v u (Rch X.K H G Q) I rx ry ⟨_, _, xs, ys, rfl, rfl, .of h1, .of h2, _, _, .refl ab, .bl _, by rw [el]; exact q⟩) fun _ _ z => .of z
    | _ => exact False.elim q
  | _ => exact False.elim q
theorem op2_le : OpR2 X (compareOp .LtE) rLe := by
  intro pins s σ H G x y dx dy v u Q I ab rx ry dX dY q
  cases dX with
  | int i =>
    cases dY with
    | int j => exact thn (op_le pins s σ H _ _ v u (Rch X.K H G Q) I rx ry ⟨i, j, rfl, rfl, _, _, .refl ab, .bl _, q⟩) fun _ _ z => .of z
    | _ => exact False.elim q
  | _ => exact False.elim q
theorem op2_gt : OpR2 X (compareOp .Gt) rGt := by
  intro pins s σ H G x y dx dy v u Q I ab rx ry dX dY q
  cases dX with
  | int i =>
    cases dY with
    | int j => exact thn (op_gt pins s σ H _ _ v u (Rch X.K H G Q) I rx ry ⟨i, j, rfl, rfl, _, _, .refl ab, .bl _, q⟩) fun _ _ z => .of z
    | _ => exact False.elim q
  | _ => exact False.elim q

/-! ### snapshots read the heap -/
mutual
def pd : D → PyData
  | .non => .none
  | .bl b => .bool b
  | .int i => .int i
  | .str x => .str x
  | .tup ds => .tuple (pds ds)
  | .rol ds => .list (pds ds)
  | .ref _ => .none
def pds : List D → List PyData
  | [] => []
  | d :: r => pd d :: pds r
end
mutual
theorem eqv_pd : ∀ (s t : D), nr s = true → nr t = true → PyData.eqv (pd s) (pd t) = eqD s t
  | .non, t, _, ht => by cases t <;> first | (simp [pd, PyData.eqv, eqD]; done) | (exact absurd ht (by simp [nr]))
  | .bl a, t, _, ht => by cases t <;> first | (simp [pd, PyData.eqv, eqD]; done) | (exact absurd ht (by simp [nr]))
  | .int a, t, _, ht => by cases t <;> first | (simp [pd, PyData.eqv, eqD]; done) | (exact absurd ht (by simp [nr]))
  | .str a, t, _, ht => by cases t <;> first | (simp [pd, PyData.eqv, eqD]; done) | (exact absurd ht (by simp [nr]))
  | .tup a, t, hs, ht => by
    cases t with
    | tup b => simp only [pd, PyData.eqv, eqD]; exact eqv_pds a b (by simpa [nr] using hs) (by simpa [nr] using ht)
    | ref _ => exact absurd ht (by simp [nr])
    | _ => simp [pd, PyData.eqv, eqD]
  | .rol a, t, hs, ht => by
    cases t with
    | rol b => simp only [pd, PyData.eqv, eqD]; exact eqv_pds a b (by simpa [nr] using hs) (by simpa [nr] using ht)
    | ref _ => exact absurd ht (by simp [nr])
    | _ => simp [pd, PyData.eqv, eqD]
  | .ref _, _, hs, _ => absurd hs (by simp [nr])
theorem eqv_pds : ∀ (s t : List D), nrs s = true → nrs t = true → PyData.eqvAll (pds s) (pds t) = eqDs s t
  | [], [], _, _ => by simp [pds, PyData.eqvAll, eqDs]
  | [], _ :: _, _, _ => by simp [pds, PyData.eqvAll, eqDs]
  | _ :: _, [], _, _ => by simp [pds, PyData.eqvAll, eqDs]
  | a :: r, b :: t, hs, ht => by
    have hs' : nr a = true ∧ nrs r = true := by simpa [nrs] using hs
    have ht' : nr b = true ∧ nrs t = true := by simpa [nrs] using ht
    simp only [pds, PyData.eqvAll, eqDs]
    rw [eqv_pd a b hs'.1 ht'.1, eqv_pds r t hs'.2 ht'.2]
end
mutual
theorem lay_pd : ∀ (s : D), nr s = true → (pd s).canLay0 = true
  | .non, _ => by simp [pd, PyData.canLay0]
  | .bl a, _ => by simp [pd, PyData.canLay0]
  | .int a, _ => by simp [pd, PyData.canLay0]
  | .str a, h => by simp only [pd, PyData.canLay0]; exact h
  | .tup a, h => by simp only [pd, PyData.canLay0]; exact lay_pds a (by simpa [nr] using h)
  | .rol a, h => by simp only [pd, PyData.canLay0]; exact lay_pds a (by simpa [nr] using h)
  | .ref _, h => absurd h (by simp [nr])
theorem lay_pds : ∀ (s : List D), nrs s = true → PyData.canLayAll0 (pds s) = true
  | [], _ => by simp [pds, PyData.canLayAll0]
  | a :: r, h => by
    have h' : nr a = true ∧ nrs r = true := by simpa [nrs] using h
    simp only [pds, PyData.canLayAll0]
    rw [lay_pd a h'.1, lay_pds r h'.2]; rfl
end
theorem dep_pd {G : Gp} {n : Nat} {d t : D} (h : Sn G n d t) : (pd t).depth ≤ n := by
  induction h with
  | non => simp [pd, PyData.depth]
  | bl b => simp [pd, PyData.depth]
  | int i => simp [pd, PyData.depth]
  | str x h => simp [pd, PyData.depth]
  | tnil => simp [pd, pds, PyData.depth, PyData.depthAll]
  | tcons _ _ ih1 ih2 =>
    simp only [pd, pds, PyData.depth, PyData.depthAll] at ih1 ih2 ⊢
    omega
  | rnil => simp [pd, pds, PyData.depth, PyData.depthAll]
  | rcons _ _ ih1 ih2 =>
    simp only [pd, pds, PyData.depth, PyData.depthAll] at ih1 ih2 ⊢
    omega
  | ref _ _ ih => exact ih
theorem rep_reads {pins : List (Addr × Obj)} {σ : L2.St} {H : Hp} {s : Shared} {G : Gp} (I : Inv X pins σ H s) (ab : AbH X.K H G) {n : Nat} {d t : D} (h : Sn G n d t) :
    (∀ v u, RepD X.K H v d → RelV v u → ∃ as, Reads s.heap u (pd t) as) ∧
    (∀ ds ss, (d = .rol ds ∧ t = .rol ss) ∨ (d = .tup ds ∧ t = .tup ss) → ∀ vs us, RepDs X.K H vs ds → Vals vs us → ∃ as, ReadsAll s.heap us (pds ss) as) := by
  have tupOf : ∀ {ds ss : List D}, (∀ vs us, RepDs X.K H vs ds → Vals vs us → ∃ as, ReadsAll s.heap us (pds ss) as) → ∀ v u, RepD X.K H v (.tup ds) → RelV v u → ∃ as, Reads s.heap u (pd (.tup ss)) as := by
    intro ds ss k v u r ru
    cases r with
    | tup hq rs =>
      cases ru
      obtain ⟨its, rv, ⟨o, ho, hc, n, hd⟩, hz⟩ := I.tuple (.of hq)
      obtain ⟨as, ra⟩ := k _ its rs rv
      exact ⟨as, .tuple ho hc hd (by simpa using ra)⟩
  have rolOf : ∀ {ds ss : List D}, (∀ vs us, RepDs X.K H vs ds → Vals vs us → ∃ as, ReadsAll s.heap us (pds ss) as) → ∀ v u, RepD X.K H v (.rol ds) → RelV v u → ∃ as, Reads s.heap u (pd (.rol ss)) as := by
    intro ds ss k v u r ru
    cases r with
    | rol hq rs =>
      cases ru
      obtain ⟨its, rv, pl, hz⟩ := I.list hq.sq
      obtain ⟨o, ho, hc, n, hd⟩ := pl.isList
      obtain ⟨as, ra⟩ := k _ its rs rv
      exact ⟨_, .list ho hc hd (by simpa using ra)⟩
  induction h with
  | non => exact ⟨fun v u r ru => by cases r; cases ru; exact ⟨_, .none⟩, fun ds ss e => by rcases e with ⟨e, _⟩ | ⟨e, _⟩ <;> cases e⟩
  | bl b => exact ⟨fun v u r ru => by cases r; cases ru; exact ⟨_, .bool b⟩, fun ds ss e => by rcases e with ⟨e, _⟩ | ⟨e, _⟩ <;> cases e⟩
  | int i => exact ⟨fun v u r ru => by cases r; obtain ⟨t, rfl⟩ := ru; exact ⟨_, .int i t⟩, fun ds ss e => by rcases e with ⟨e, _⟩ | ⟨e, _⟩ <;> cases e⟩
  | str x hx => exact ⟨fun v u r ru => by cases r; obtain ⟨t, rfl⟩ := ru; exact ⟨_, .str x t⟩, fun ds ss e => by rcases e with ⟨e, _⟩ | ⟨e, _⟩ <;> cases e⟩
  | tnil =>
    have k : ∀ vs us, RepDs X.K H vs [] → Vals vs us → ∃ as, ReadsAll s.heap us (pds []) as := fun vs us r ru => by
      have e := r.zero
      subst e
      cases ru
      exact ⟨_, .nil⟩
    refine ⟨tupOf k, fun ds ss e => ?_⟩
    rcases e with ⟨e, _⟩ | ⟨e, e2⟩
    · cases e
    · cases e; cases e2; exact k
  | tcons h1 h2 ih1 ih2 =>
    have k2 := ih2.2 _ _ (.inr ⟨rfl, rfl⟩)
    have k : ∀ vs us, RepDs X.K H vs (_ :: _) → Vals vs us → ∃ as, ReadsAll s.heap us (pds (_ :: _)) as := fun vs us r ru => by
      cases r with
      | cons r1 r2 =>
        cases ru with
        | cons u1 u2 =>
          obtain ⟨as, ra⟩ := ih1.1 _ _ r1 u1
          obtain ⟨bs, rb⟩ := k2 _ _ r2 u2
          exact ⟨_, .cons ra rb⟩
    refine ⟨tupOf k, fun ds ss e => ?_⟩
    rcases e with ⟨e, _⟩ | ⟨e, e2⟩
    · cases e
    · cases e; cases e2; exact k
  | rnil =>
    have k : ∀ vs us, RepDs X.K H vs [] → Vals vs us → ∃ as, ReadsAll s.heap us (pds []) as := fun vs us r ru => by
      have e := r.zero
      subst e
      cases ru
      exact ⟨_, .nil⟩
    refine ⟨rolOf k, fun ds ss e => ?_⟩
    rcases e with ⟨e, e2⟩ | ⟨e, _⟩
    · cases e; cases e2; exact k
    · cases e
  | rcons h1 h2 ih1 ih2 =>
    have k2 := ih2.2 _ _ (.inl ⟨rfl, rfl⟩)
    have k : ∀ vs us, RepDs X.K H vs (_ :: _) → Vals vs us → ∃ as, ReadsAll s.heap us (pds (_ :: _)) as := fun vs us r ru => by
      cases r with
      | cons r1 r2 =>
        cases ru with
        | cons u1 u2 =>
          obtain ⟨as, ra⟩ := ih1.1 _ _ r1 u1
          obtain ⟨bs, rb⟩ := k2 _ _ r2 u2
          exact ⟨_, .cons ra rb⟩
    refine ⟨rolOf k, fun ds ss e => ?_⟩
    rcases e with ⟨e, e2⟩ | ⟨e, _⟩
    · cases e; cases e2; exact k
    · cases e
  | ref hg h1 ih =>
    refine ⟨fun v u r ru => ?_, fun ds ss e => by rcases e with ⟨e, _⟩ | ⟨e, _⟩ <;> cases e⟩
    cases r
    cases ru
    obtain ⟨vs, hv, rs⟩ := ab.lst hg
    obtain ⟨its, rv, pl, hz⟩ := I.list (.of hv)
    obtain ⟨o, ho, hc, n, hd⟩ := pl.isList
    obtain ⟨as, ra⟩ := ih.2 _ _ (.inl ⟨rfl, rfl⟩) vs its rs rv
    exact ⟨_, .list ho hc hd (by simpa using ra)⟩
theorem op2_eq (hu : X.A.units + 64 < cLine) : OpR2 X (compareOp .Eq) (rEq false) := by
  intro pins s σ H G x y dx dy v u Q I ab rx ry dX dY q
  obtain ⟨a, b, sa, sb, q⟩ := q
  obtain ⟨as, ra⟩ := (rep_reads I ab sa).1 x v dX rx
  obtain ⟨bs, rb⟩ := (rep_reads I ab sb).1 y u dY ry
  have d1 := dep_pd sa
  refine SeqAt.compareEq_reads ra rb (lay_pd _ sa.nr) (lay_pd _ sb.nr) (by unfold SN at d1; omega) ?_
  rw [eqv_pd _ _ sa.nr sb.nr]
  exact ⟨.bl _, H, .bl _, G, I, .refl ab, rfl, .bl _, q⟩
theorem op2_ne (hu : X.A.units + 64 < cLine) : OpR2 X (compareOp .NotEq) (rEq true) := by
  intro pins s σ H G x y dx dy v u Q I ab rx ry dX dY q
  obtain ⟨a, b, sa, sb, q⟩ := q
  obtain ⟨as, ra⟩ := (rep_reads I ab sa).1 x v dX rx
  obtain ⟨bs, rb⟩ := (rep_reads I ab sb).1 y u dY ry
  have d1 := dep_pd sa
  refine SeqAt.compareNe_reads ra rb (lay_pd _ sa.nr) (lay_pd _ sb.nr) (by unfold SN at d1; omega) ?_
  rw [eqv_pd _ _ sa.nr sb.nr]
  exact ⟨.bl _, H, .bl _, G, I, .refl ab, rfl, .bl _, q⟩
end
end K2

end
section
namespace K2
open PySem PySem.Spec PyProof.Rows L2
set_option autoImplicit false
/-! ### keys -/
theorem eqD_key (j k : Key) : eqD (keyD j) (keyD k) = decide (j = k) := by
  cases j with
  | inl a => cases k with
    | inl b => simp only [keyD, eqD, key_ll]
    | inr b => simp [keyD, eqD]
  | inr a => cases k with
    | inl b => simp [keyD, eqD]
    | inr b => simp only [keyD, eqD, key_rr]; exact (Bool.beq_eq_decide_eq a b)
theorem eqDs_keys : ∀ (js ks : List Key), eqDs (js.map keyD) (ks.map keyD) = decide (js = ks)
  | [], [] => by simp [eqDs]
  | [], _ :: _ => by simp [eqDs]
  | _ :: _, [] => by simp [eqDs]
  | j :: js, k :: ks => by
    simp only [List.map_cons, eqDs]
    rw [eqD_key, eqDs_keys js ks]
    by_cases h1 : j = k <;> by_cases h2 : js = ks <;> simp [h1, h2]
theorem eqD_keyT (js ks : List Key) : eqD (.tup (js.map keyD)) (.tup (ks.map keyD)) = decide (js = ks) := by
  simp only [eqD]; exact eqDs_keys js ks
section
variable {K : PySem.W.Frag} {H : Hp}
theorem key1_of {d : D} (h : keyOk1 d = true) : ∃ k : Key, d = keyD k := by
  cases d with
  | int i => exact ⟨.inl i, rfl⟩
  | str x => exact ⟨.inr x, rfl⟩
  | _ => exact absurd h (by simp [keyOk1])
theorem keys_of : ∀ {ds : List D}, ds.all keyOk1 = true → ∃ ks : List Key, ds = ks.map keyD
  | [], _ => ⟨[], rfl⟩
  | d :: r, h => by
    rw [List.all_cons, Bool.and_eq_true] at h
    obtain ⟨k, rfl⟩ := key1_of h.1
    obtain ⟨ks, rfl⟩ := keys_of h.2
    exact ⟨k :: ks, rfl⟩
theorem keyT_of {d : D} (h : keyOkT d = true) : ∃ ks : List Key, d = .tup (ks.map keyD) := by
  cases d with
  | tup ds => obtain ⟨ks, rfl⟩ := keys_of (ds := ds) h; exact ⟨ks, rfl⟩
  | _ => exact absurd h (by simp [keyOkT])
theorem rep_key {v : V} {k : Key} (r : RepD K H v (keyD k)) : v = kV k := by
  cases k with
  | inl i => cases r; rfl
  | inr x => cases r; rfl
theorem reps_key : ∀ {vs : List V} {ks : List Key}, RepDs K H vs (ks.map keyD) → vs = ks.map kV
  | _, [], r => r.zero
  | _, k :: ks, r => by
    rw [List.map_cons] at r
    cases r with
    | cons r1 r2 => rw [rep_key r1, reps_key r2]; rfl
theorem rep_keyT {v : V} {ks : List Key} (r : RepD K H v (.tup (ks.map keyD))) : ∃ b, v = .ref b ∧ H b = some (.tup (ks.map kV)) := by
  cases r with
  | tup h rs => have e := reps_key rs; subst e; exact ⟨_, rfl, h⟩
/-! ### what a dict holds -/
theorem DKs.look {kv : List (Key × V)} {kvs : List (D × D)} (r : DKs K H kv kvs) (k : Key) : (∃ v d, valV kv k = some v ∧ K2.look kvs (keyD k) = some d ∧ RepD K H v d) ∨ (valV kv k = none ∧ K2.look kvs (keyD k) = none) := by
  induction r with
  | nil => exact .inr ⟨rfl, rfl⟩
  | @cons j v d r t rd rs ih =>
    by_cases e : j = k
    · left
      refine ⟨v, d, valV_pos (p := (j, v)) e, ?_, rd⟩
      unfold K2.look
      rw [List.find?_cons_of_pos (by show eqD (keyD j) (keyD k) = true; rw [eqD_key]; exact decide_eq_true e)]; rfl
    · have e1 : valV ((j, v) :: r) k = valV r k := valV_neg (p := (j, v)) e
      have e2 : K2.look ((keyD j, d) :: t) (keyD k) = K2.look t (keyD k) := by
        unfold K2.look
        rw [List.find?_cons_of_neg (by show ¬ eqD (keyD j) (keyD k) = true; rw [eqD_key]; simpa using e)]
      rw [e1, e2]
      exact ih
theorem DTs.look {kv : List (List Key × V)} {kvs : List (D × D)} (r : DTs K H kv kvs) (k : List Key) : (∃ v d, valV kv k = some v ∧ K2.look kvs (.tup (k.map keyD)) = some d ∧ RepD K H v d) ∨ (valV kv k = none ∧ K2.look kvs (.tup (k.map keyD)) = none) := by
  induction r with
  | nil => exact .inr ⟨rfl, rfl⟩
  | @cons j v d r t rd rs ih =>
    by_cases e : j = k
    · left
      refine ⟨v, d, valV_pos (p := (j, v)) e, ?_, rd⟩
      unfold K2.look
      rw [List.find?_cons_of_pos (by show eqD (.tup (j.map keyD)) (.tup (k.map keyD)) = true; rw [eqD_keyT]; exact decide_eq_true e)]; rfl
    · have e1 : valV ((j, v) :: r) k = valV r k := valV_neg (p := (j, v)) e
      have e2 : K2.look ((.tup (j.map keyD), d) :: t) (.tup (k.map keyD)) = K2.look t (.tup (k.map keyD)) := by
        unfold K2.look
        rw [List.find?_cons_of_neg (by show ¬ eqD (.tup (j.map keyD)) (.tup (k.map keyD)) = true; rw [eqD_keyT]; simpa using e)]
      rw [e1, e2]
      exact ih
theorem DKs.any {kv : List (Key × V)} {kvs : List (D × D)} (r : DKs K H kv kvs) (k : Key) : (kv.any fun p => decide (p.1 = k)) = kvs.any fun p => eqD p.1 (keyD k) := by
  induction r with
  | nil => rfl
  | @cons j v d r t rd rs ih => simp only [List.any_cons]; rw [ih, eqD_key]
theorem DTs.any {kv : List (List Key × V)} {kvs : List (D × D)} (r : DTs K H kv kvs) (k : List Key) : (kv.any fun p => decide (p.1 = k)) = kvs.any fun p => eqD p.1 (.tup (k.map keyD)) := by
  induction r with
  | nil => rfl
  | @cons j v d r t rd rs ih => simp only [List.any_cons]; rw [ih, eqD_keyT]
theorem DKs.put {kv : List (Key × V)} {kvs : List (D × D)} (r : DKs K H kv kvs) (k : Key) {v : V} {d : D} (rd : RepD K H v d) : DKs K H (putK kv k v) (K2.put kvs (keyD k) d) := by
  unfold putK K2.put
  rw [r.any k]
  by_cases h : (kvs.any fun p => eqD p.1 (keyD k)) = true
  · rw [if_pos h, if_pos h]
    clear h
    induction r with
    | nil => exact .nil
    | @cons j w e r t re rs ih =>
      simp only [List.map_cons]
      rw [eqD_key]
      by_cases e : j = k
      · simp only [e, if_true, decide_true]; exact .cons rd ih
      · simp only [e, if_false, decide_false, Bool.false_eq_true]; exact .cons re ih
  · rw [if_neg h, if_neg h]
    clear h
    induction r with
    | nil => exact .cons rd .nil
    | cons re rs ih => exact .cons re ih
theorem DTs.put {kv : List (List Key × V)} {kvs : List (D × D)} (r : DTs K H kv kvs) (k : List Key) {v : V} {d : D} (rd : RepD K H v d) : DTs K H (putK kv k v) (K2.put kvs (.tup (k.map keyD)) d) := by
  unfold putK K2.put
  rw [r.any k]
  by_cases h : (kvs.any fun p => eqD p.1 (.tup (k.map keyD))) = true
  · rw [if_pos h, if_pos h]
    clear h
    induction r with
    | nil => exact .nil
    | @cons j w e r t re rs ih =>
      simp only [List.map_cons]
      rw [eqD_keyT]
      by_cases e : j = k
      · simp only [e, if_true, decide_true]; exact .cons rd ih
      · simp only [e, if_false, decide_false, Bool.false_eq_true]; exact .cons re ih
  · rw [if_neg h, if_neg h]
    clear h
    induction r with
    | nil => exact .cons rd .nil
    | cons re rs ih => exact .cons re ih
end
theorem Kp.putD {H : Hp} {p : Addr} {o o' : HO} (hp : H p = some o) (h : (∃ k, o = .dK k) ∨ ∃ k, o = .dT k) : Kp H (upd H p o') :=
  ⟨fun a ys e => by rw [upd_ne (by rintro rfl; rw [hp] at e; rcases h with ⟨_, rfl⟩ | ⟨_, rfl⟩ <;> cases e)]; exact e, fun a ob u e => by rw [upd_ne (by rintro rfl; rw [hp] at e; rcases h with ⟨_, rfl⟩ | ⟨_, rfl⟩ <;> cases e)]; exact e⟩
section
variable {X : Cx} {pins : List (Addr × Obj)} {σ : L2.St} {H : Hp} {s : Shared} {G : Gp} {a : Addr} {kvs : List (D × D)} {k : D} {y : V}
/-- the empty dict is a dict of either kind -/
theorem toT (I : Inv X pins σ H s) (e : H a = some (.dK [])) : Inv X pins σ (upd H a (.dT [])) s := by
  obtain ⟨z, hd, vs, rel, dd⟩ := dk_of I.hok e
  have hv : vs = [] := by cases rel; rfl
  subst hv
  obtain ⟨o, es, ep, ho, hx, hd', hko, hl, nd⟩ := dd
  have he : es = #[] := by
    cases hq : es.toList with
    | nil => simpa using hq
    | cons _ _ => rw [hq] at hl; cases hl
  subst he
  exact I.write (h' := s.heap) (t' := s.toks) (x := a) (e := a) (by rw [e]; exact True.intro) (.inl rfl) (fun b u _ q => q) ⟨o, ho⟩ ⟨Nat.zero_le _, hd, [], .nil, o, #[], ep, ho, hx, hd', rfl, List.nodup_nil⟩
theorem toK (I : Inv X pins σ H s) (e : H a = some (.dT [])) : Inv X pins σ (upd H a (.dK [])) s := by
  obtain ⟨z, hd, xs, rel, o, es, ep, ho, hx, hd', hl, nd⟩ := I.hok a _ e
  have hv : xs = [] := by cases rel; rfl
  subst hv
  have he : es = #[] := by simpa using hl
  subst he
  exact I.write (h' := s.heap) (t' := s.toks) (x := a) (e := a) (by rw [e]; exact True.intro) (.inl rfl) (fun b u _ q => q) ⟨o, ho⟩ ⟨Nat.zero_le _, hd, [], .nil, o, #[], ep, ho, hx, hd', (fun _ h => by simp at h), .nil, List.nodup_nil⟩
theorem mv_same {o : HO} (ab : AbH X.K H G) (hg : G a = some (.dic kvs)) (k : Kp H (upd H a o)) (ho : AbO X.K (upd H a o) a (.dic kvs)) : Mv X.K H G (upd H a o) G := by
  have m := Mv.put ab hg k ho
  have e : updG G a (.dic kvs) = G := by funext b; unfold updG; split
                                         · rename_i z; rw [z, hg]
                                         · rfl
  rw [e] at m
  exact m
/-- the dict's kind is the key's -/
theorem dict_at (I : Inv X pins σ H s) (ab : AbH X.K H G) (hg : G a = some (.dic kvs)) (hk : kindOk kvs k = true) (ry : RepD X.K H y k) :
    ∃ H', Inv X pins σ H' s ∧ Mv X.K H G H' G ∧ ((∃ (kv : List (Key × V)) (kk : Key), H' a = some (.dK kv) ∧ DKs X.K H' kv kvs ∧ k = keyD kk ∧ y = kV kk) ∨ ∃ (kv : List (List Key × V)) (kk : List Key) (b : Addr), H' a = some (.dT kv) ∧ DTs X.K H' kv kvs ∧ k = .tup (kk.map keyD) ∧ y = .ref b ∧ H' b = some (.tup (kk.map kV))) := by
  unfold kindOk at hk
  rw [Bool.or_eq_true, Bool.and_eq_true, Bool.and_eq_true] at hk
  rcases hk with ⟨h1, h2⟩ | ⟨h1, h2⟩
  · obtain ⟨kk, rfl⟩ := key1_of h1
    have ey := rep_key ry
    subst ey
    rcases ab a _ hg with ⟨kv, hv, rs⟩ | ⟨kv, hv, rs⟩
    · exact ⟨H, I, .refl ab, .inl ⟨kv, kk, hv, rs, rfl, rfl⟩⟩
    · cases rs with
      | nil =>
        refine ⟨_, toK I hv, mv_same ab hg (.putD hv (.inr ⟨_, rfl⟩)) (.inl ⟨[], upd_same, .nil⟩), .inl ⟨[], kk, upd_same, .nil, rfl, rfl⟩⟩
      | cons _ _ => simp [keyOk1] at h2
  · obtain ⟨kk, rfl⟩ := keyT_of h1
    obtain ⟨b, rfl, hb⟩ := rep_keyT ry
    rcases ab a _ hg with ⟨kv, hv, rs⟩ | ⟨kv, hv, rs⟩
    · cases rs with
      | nil =>
        have kp : Kp H (upd H a (.dT [])) := .putD hv (.inl ⟨_, rfl⟩)
        exact ⟨_, toT I hv, mv_same ab hg kp (.inr ⟨[], upd_same, .nil⟩), .inr ⟨[], kk, b, upd_same, .nil, rfl, rfl, kp.tup _ _ hb⟩⟩
      | @cons j _ _ _ _ _ _ => cases j <;> simp [keyD, keyOkT] at h2
    · exact ⟨H, I, .refl ab, .inr ⟨kv, kk, b, hv, rs, rfl, rfl, hb⟩⟩
/-- .. and what it holds there -/
theorem dict_get (I : Inv X pins σ H s) (ab : AbH X.K H G) (hg : G a = some (.dic kvs)) (hk : kindOk kvs k = true) (ry : RepD X.K H y k) :
    ∃ H' o, Inv X pins σ H' s ∧ Mv X.K H G H' G ∧ DGet H' a y o ∧ o.isSome = (look kvs k).isSome ∧ ∀ d, look kvs k = some d → ∃ v, o = some v ∧ RepD X.K H' v d := by
  obtain ⟨H', I', m, h⟩ := dict_at I ab hg hk ry
  rcases h with ⟨kv, kk, hv, rs, rfl, rfl⟩ | ⟨kv, kk, b, hv, rs, rfl, rfl, hb⟩
  · refine ⟨H', valV kv kk, I', m, .k hv, ?_, fun d hd => ?_⟩
    · rcases rs.look kk with ⟨v, d, e1, e2, _⟩ | ⟨e1, e2⟩ <;> rw [e1, e2] <;> rfl
    · rcases rs.look kk with ⟨v, d', e1, e2, r⟩ | ⟨e1, e2⟩
      · rw [e2] at hd; cases hd; exact ⟨v, e1, r⟩
      · rw [e2] at hd; cases hd
  · refine ⟨H', valV kv kk, I', m, .t hv hb, ?_, fun d hd => ?_⟩
    · rcases rs.look kk with ⟨v, d, e1, e2, _⟩ | ⟨e1, e2⟩ <;> rw [e1, e2] <;> rfl
    · rcases rs.look kk with ⟨v, d', e1, e2, r⟩ | ⟨e1, e2⟩
      · rw [e2] at hd; cases hd; exact ⟨v, e1, r⟩
      · rw [e2] at hd; cases hd
/-- .. and what is put there -/
theorem dict_put {v : V} {d : D} (I : Inv X pins σ H s) (ab : AbH X.K H G) (hg : G a = some (.dic kvs)) (hk : kindOk kvs k = true) (hz : kvs.length < SZ) (ry : RepD X.K H y k) (rv : RepD X.K H v d) :
    ∃ H' H'', Inv X pins σ H' s ∧ DPut H' a y v H'' ∧ Mv X.K H G H'' (updG G a (.dic (put kvs k d))) := by
  obtain ⟨H', I', m, h⟩ := dict_at I ab hg hk ry
  have rv' := rv.mono (m.kp ab)
  have sz : sizeLine = 16777216 := sizeLine_eq
  rcases h with ⟨kv, kk, hv, rs, rfl, rfl⟩ | ⟨kv, kk, b, hv, rs, rfl, rfl, hb⟩
  · have kp : Kp H' (upd H' a (.dK (putK kv kk v))) := .putD hv (.inl ⟨_, rfl⟩)
    exact ⟨H', _, I', .k hv (by rw [rs.length, sz]; exact hz), m.trans (.put m.ab hg kp (.inl ⟨_, upd_same, (rs.put kk rv').mono kp⟩))⟩
  · have kp : Kp H' (upd H' a (.dT (putK kv kk v))) := .putD hv (.inr ⟨_, rfl⟩)
    exact ⟨H', _, I', .t hv hb (by rw [rs.length, sz]; exact hz), m.trans (.put m.ab hg kp (.inr ⟨_, upd_same, (rs.put kk rv').mono kp⟩))⟩
end
end K2

end
section
namespace K2
open PySem PySem.Spec PyProof.Rows L2
set_option autoImplicit false
section
variable {X : Cx} {a b c e : Expr} {es : List Expr} {ta tb tc te : TE2} {t : TA2} {pos p p2 apos cpos : Pos} {x : Str}
theorem pe2_bl {k : Bool} {j} : PE2 X (.Constant (.bool k) j pos) (dC (.bl k)) := pe2_const pe_bl fun _ _ => .bl k
theorem pe2_non {j} : PE2 X (.Constant .none j pos) (dC .non) := pe2_const pe_non fun _ _ => .non
theorem pe2_str {y : Str} {j} : PE2 X (.Constant (.str y) j pos) (dC (.str y)) := pe2_const pe_str fun _ _ => .str y
theorem ps2_pass : PS2 X (.Pass pos) dNext := fun _ _ _ σ H τ G _ _ I h => wpAny_Pass ⟨σ, H, τ, G, I, .refl I.ab, h⟩
theorem ps2_break : PS2 X (.Break pos) dBrk := fun _ _ _ σ H τ G _ _ I h => wpAny_Break ⟨σ, H, τ, G, I, .refl I.ab, h⟩
theorem ps2_continue : PS2 X (.Continue pos) dCont := fun _ _ _ σ H τ G _ _ I h => wpAny_Continue ⟨σ, H, τ, G, I, .refl I.ab, h⟩
theorem ps2_retN : PS2 X (.Return none pos) dRetN := fun _ _ _ σ H _ G _ _ I h => wpAny_Return_none ⟨.non, σ, H, .non, G, I.inv, .refl I.ab, rfl, .non, h⟩
theorem ps2_never {st : Stmt} : PS2 X st dNever := fun _ _ _ _ _ _ _ _ _ _ h => h.elim
theorem un2_neg : UnR2 X (unaryOp .USub) rNeg := by
  intro pins s σ H G x dx v Q I ab rx dX q
  cases dX with
  | int i => exact thn (un_neg pins s σ H _ v (Rch X.K H G Q) I rx ⟨i, rfl, _, _, .refl ab, .int _, q⟩) fun _ _ z => .of z
  | _ => exact False.elim q
theorem op2_ge : OpR2 X (compareOp .GtE) rGe := by
  intro pins s σ H G x y dx dy v u Q I ab rx ry dX dY q
  cases dX with
  | int i =>
    cases dY with
    | int j => exact thn (op_ge pins s σ H _ _ v u (Rch X.K H G Q) I rx ry ⟨i, j, rfl, rfl, _, _, .refl ab, .bl _, q⟩) fun _ _ z => .of z
    | _ => exact False.elim q
  | _ => exact False.elim q

/-! ### subscripts -/
theorem pe2_ix (hu : X.A.units + 64 < cLine) (ha : PE2 X a ta) (hb : PE2 X b tb) (hs : PlainIx b) : PE2 X (.Subscript a b pos) (dBin rIx ta tb) := by
  intro E pins s σ H τ G Q hE I h
  refine Subscript_ (binT2 ha hb hE I h fun v u s2 x y dx dy H2 G2 J m rx ry dX dY q => ?_)
  have fin : ∀ {rb : R2}, IxR X rb → rb x y H2 (Rch X.K H2 G2 Q) → wpAny (model X.prog X.w) X.A (subscriptTail a b v u) (EP2 X pins σ H G Q) X.xe s2 := fun hr hq =>
    thn (hr a b pins s2 σ H2 x y v u _ J.inv rx ry hq (hs _ _)) fun _ _ z => (EP2.of z).trans m
  cases dX with
  | tup hq rs =>
    cases dY with
    | int i =>
      rw [rIx_tupM] at q
      split at q
      · rename_i d hd
        obtain ⟨w, hw, rw'⟩ := rs.atI hd
        exact fin ix_tup ⟨_, _, i, w, rfl, rfl, .of hq, hw, d, G2, .refl J.ab, rw', q⟩
      · exact q.elim
    | _ => exact False.elim q
  | rol hq rs =>
    cases dY with
    | int i =>
      rw [rIx_rolM] at q
      split at q
      · rename_i d hd
        obtain ⟨w, hw, rw'⟩ := rs.atI hd
        exact fin ix_list ⟨_, _, i, w, rfl, rfl, hq.sq, hw, d, G2, .refl J.ab, rw', q⟩
      · exact q.elim
    | _ => exact False.elim q
  | ref l =>
    rw [rIx_ref] at q
    split at q
    · rename_i ds hl
      obtain ⟨vs, hv, rs⟩ := J.ab.lst hl
      cases dY with
      | int i =>
        dsimp only at q
        split at q
        · rename_i d hd
          obtain ⟨w, hw, rw'⟩ := rs.atI hd
          exact fin ix_list ⟨_, _, i, w, rfl, rfl, .of hv, hw, d, G2, .refl J.ab, rw', q⟩
        · exact q.elim
      | _ => exact False.elim q
    · rename_i kvs hl
      obtain ⟨hk, q⟩ := q
      split at q
      · rename_i d hd
        obtain ⟨H3, o, I3, m3, g, _, hv⟩ := dict_get J.inv J.ab hl hk dY
        obtain ⟨w, rfl, rw'⟩ := hv d hd
        cases rx
        exact tail_any (dict_typeIs I3 g) PySem.F.slot_dict_getitem.lookup (d_getItem (by omega) I3 g ry fun w' s3 I4 rv => ⟨w, H3, d, G2, I4, m.trans m3, rv, rw', q⟩) (hs _ _)
      · exact q.elim
    · exact q.elim
  | _ => exact False.elim q
def PO2 (X : Cx) (e : Option Expr) (t : TO2) : Prop :=
  ∀ (E : XK2) (pins : List (Addr × Obj)) (s : Shared) (σ : L2.St) (H : Hp) (τ : St2) (G : Gp) (Q : Option Int → Gp → Prop), Lk X E → I2 X pins σ H τ G s → t E τ G Q →
    wpAny (model X.prog X.w) X.A (evalPart e X.env) (fun u s' => ∃ o H' G', Inv X pins σ H' s' ∧ Mv X.K H G H' G' ∧ IsPart u o ∧ Q o G') X.xe s
theorem po2_none : PO2 X none dNoPart := by
  intro E pins s σ H τ G Q hE I h
  rw [evalPart_none]
  exact wpAny_pure ⟨none, H, G, I.inv, .refl I.ab, .none, h⟩
theorem po2_some (h : PE2 X e te) : PO2 X (some e) (dPart te) := by
  intro E pins s σ H τ G Q hE I hw
  rw [evalPart_some]
  refine thnE h hE I hw fun x H1 d G1 u s1 I1 m1 r1 rd1 q1 => ?_
  cases rd1 with
  | int i =>
    obtain ⟨t, rfl⟩ := r1
    exact ⟨some i, H1, G1, I1.inv, m1, .int i t, q1⟩
  | _ => exact False.elim q1
theorem pe2_slice {lo hi : Option Expr} {tl th : TO2} (he : PE2 X a ta) (hl : PO2 X lo tl) (hu : PO2 X hi th) : PE2 X (.Subscript a (.Slice lo hi none p2) pos) (dSl ta tl th) := by
  intro E pins s σ H τ G Q hE I h
  refine Subscript_ (thnE he hE I h fun x H1 d G1 v s1 I1 m1 r1 rd1 q1 => ?_)
  refine wpAny_Slice (thn (hl E pins s1 σ H1 τ G1 _ hE I1 q1) fun vl s2 ⟨l, H2, G2, I2', m2, pl, q2⟩ => thn (hu E pins s2 σ H2 τ G2 _ hE (I1.mv I2' m2) q2) fun vu s3 ⟨r, H3, G3, I3, m3, pu, q3⟩ => ?_)
  rw [evalPart_none]
  refine wpAny_pure ?_
  have m13 := m2.trans m3
  have mm := m1.trans m13
  have I4 : Inv X pins σ H3 { s3 with heap := s3.heap.push { cls := .type "slice", data := .fields #[vl, vu, .none] } } := I3.kept (t' := s3.toks) fun b ob q => Heap.get?_push_of_some _ q
  have rd3 := rd1.mono (m13.kp I1.ab)
  have ab3 := m3.ab
  have key : ∀ {rb : V → Option Int → Option Int → Hp → VK → Prop}, SlR X rb → rb x l r H3 (Rch X.K H3 G3 Q) → wpAny (model X.prog X.w) X.A (subscriptTail a (.Slice lo hi none p2) v (.ref s3.heap.objs.size)) (EP2 X pins σ H G Q) X.xe { s3 with heap := s3.heap.push { cls := .type "slice", data := .fields #[vl, vu, .none] } } := fun hr hq => by
    obtain ⟨T, id, hT, ht, hg⟩ := hr pins { s3 with heap := s3.heap.push { cls := .type "slice", data := .fields #[vl, vu, .none] } } σ H3 x v vl vu l r s3.heap.objs.size _ I4 r1 (Heap.IsSliceOf.new ..) pl pu hq
    exact thn (tail_any (ops := [.ref s3.heap.objs.size, v]) ht hT hg (by with_unfolding_all rfl)) fun _ _ z => (EP2.of z).trans mm
  cases rd3 with
  | tup hq rs =>
    obtain ⟨hw, q⟩ := q3
    refine key sl_tup ⟨_, _, rfl, .of hq, ?_, fun p hp => ⟨_, G3, .hid ab3 hp, .tup upd_same ((rs.cut l r).mono (.new hp)), q⟩⟩
    rw [sIx_eq, sIx_eq, rs.length]
    exact hw
  | rol hq rs => exact key sl_list ⟨_, _, rfl, hq.sq, fun p hp => ⟨_, _, .newL ab3 hp (rs.cut l r), .ref _, q3 p (ab3.free hp)⟩⟩
  | ref g =>
    rw [rSl_ref] at q3
    split at q3
    · rename_i ds hg
      obtain ⟨vs, hv, rs⟩ := ab3.lst hg
      exact key sl_list ⟨_, _, rfl, .of hv, fun p hp => ⟨_, _, .newL ab3 hp (rs.cut l r), .ref _, q3 p (ab3.free hp)⟩⟩
    · exact q3.elim
  | _ => exact False.elim q3

/-! ### in -/
theorem pds_any (ss : List D) (s : D) (h1 : nrs ss = true) (h2 : nr s = true) : ((pds ss).any fun y => PyData.eqv y (pd s)) = ss.any (eqD · s) := by
  induction ss with
  | nil => rfl
  | cons d r ih =>
    have h' : nr d = true ∧ nrs r = true := by simpa [nrs] using h1
    show (PyData.eqv (pd d) (pd s) || (pds r).any _) = _
    rw [ih h'.2, eqv_pd d s h'.1 h2]; rfl
theorem dep_pds {G : Gp} {n : Nat} {ds ss : List D} (h : Sn G (n + 1) (.rol ds) (.rol ss)) : PyData.depthAll (pds ss) ≤ n := by
  have := dep_pd h
  simp only [pd, PyData.depth] at this
  omega
theorem in_core (hu : X.A.units + 64 < cLine) (neg : Bool) {pins : List (Addr × Obj)} {s : Shared} {σ : L2.St} {H : Hp} {G : Gp} {x y : V} {dx t : D} {ds ss : List D} {v u : Value} {Q : DK} (I : Inv X pins σ H s) (ab : AbH X.K H G) (rx : RelV x v) (dX : RepD X.K H x dx)
    (hy : (∃ l vs its, u = .ref l ∧ Vals vs its ∧ RepDs X.K H vs ds ∧ (s.heap.IsList l its.toArray ∨ s.heap.IsTuple l its.toArray))) (s1 : Sn G SN dx t) (s2 : Sn G SN (.rol ds) (.rol ss))
    (q : Q (.bl (if neg then !ss.any (eqD · t) else ss.any (eqD · t))) G) : wpAny (model X.prog X.w) X.A (compareOp (if neg then .NotIn else .In) v u) (EP2 X pins σ H G Q) X.xe s := by
  obtain ⟨l, vs, its, rfl, rv, rs, hl⟩ := hy
  obtain ⟨as, ra⟩ := (rep_reads I ab s1).1 x v dX rx
  obtain ⟨bs, rb⟩ := (rep_reads I ab s2).2 ds ss (.inl ⟨rfl, rfl⟩) vs its rs rv
  have d2 := dep_pds (n := 7) s2
  have n2 : nrs ss = true := by have := s2.nr; simpa [nr] using this
  have lays := lay_pds _ n2
  have e := pds_any ss t n2 s1.nr
  have hu' : X.A.units + 1 + min (PyData.depthAll (pds ss)) (pd t).depth < cLine := by omega
  have rb' : ReadsAll s.heap its.toArray.toList (pds ss) bs := by simpa using rb
  have fin : ∀ k : Bool, k = (if neg then !ss.any (eqD · t) else ss.any (eqD · t)) → EP2 X pins σ H G Q (.bool k) s := fun k hk => by subst hk; exact ⟨.bl _, H, .bl _, G, I, .refl ab, rfl, .bl _, q⟩
  cases neg with
  | false =>
    rcases hl with hl | hl
    · exact SeqAt.in_listAt _ hl (SeqAt.items_eqAt rb' ra lays (lay_pd _ s1.nr) hu') (by rw [SeqAt.any_by_data rb' lays, e]; exact fin _ rfl)
    · exact SeqAt.in_tupleAt _ hl (SeqAt.items_eqAt rb' ra lays (lay_pd _ s1.nr) hu') (by rw [SeqAt.any_by_data rb' lays, e]; exact fin _ rfl)
  | true =>
    rcases hl with hl | hl
    · exact SeqAt.notIn_listAt _ hl (SeqAt.items_eqAt rb' ra lays (lay_pd _ s1.nr) hu') (by rw [SeqAt.any_by_data rb' lays, e]; exact fin _ rfl)
    · exact SeqAt.notIn_tupleAt _ hl (SeqAt.items_eqAt rb' ra lays (lay_pd _ s1.nr) hu') (by rw [SeqAt.any_by_data rb' lays, e]; exact fin _ rfl)
theorem op2_inN (hu : X.A.units + 64 < cLine) (neg : Bool) : OpR2 X (compareOp (if neg then .NotIn else .In)) (rIn neg) := by
  intro pins s σ H G x y dx dy v u Q I ab rx ry dX dY q
  cases dY with
  | tup hq rs =>
    obtain ⟨t, ss, s1, s2, q⟩ := q
    cases ry
    obtain ⟨its, rv, pl, hz⟩ := I.tuple (.of hq)
    exact in_core hu neg (y := x) I ab rx dX ⟨_, _, its, rfl, rv, rs, .inr pl⟩ s1 s2 q
  | rol hq rs =>
    obtain ⟨t, ss, s1, s2, q⟩ := q
    cases ry
    obtain ⟨its, rv, pl, hz⟩ := I.list hq.sq
    exact in_core hu neg (y := x) I ab rx dX ⟨_, _, its, rfl, rv, rs, .inl pl.isList⟩ s1 s2 q
  | ref l =>
    unfold rIn at q
    dsimp only at q
    split at q
    · rename_i kvs hl
      obtain ⟨hk, q⟩ := q
      obtain ⟨H3, o, I3, m3, g, ho, _⟩ := dict_get I ab hl hk dX
      cases ry
      cases neg with
      | false => exact d_in (by omega) I3 g rx fun s3 I4 => ⟨.bl _, H3, .bl _, G, I4, m3, rfl, .bl _, by rw [ho]; exact q⟩
      | true => exact d_notIn (by omega) I3 g rx fun s3 I4 => ⟨.bl _, H3, .bl _, G, I4, m3, rfl, .bl _, by rw [ho]; exact q⟩
    · rename_i ds hl
      obtain ⟨t, ss, s1, s2, q⟩ := q
      cases ry
      obtain ⟨vs, hv, rs⟩ := ab.lst hl
      obtain ⟨its, rv, pl, hz⟩ := I.list (.of hv)
      exact in_core hu neg (y := x) I ab rx dX ⟨_, _, its, rfl, rv, rs, .inl pl.isList⟩ s1 s2 q
    · exact q.elim
  | _ => exact False.elim q
theorem op2_in (hu : X.A.units + 64 < cLine) : OpR2 X (compareOp .In) (rIn false) := op2_inN hu false
theorem op2_notin (hu : X.A.units + 64 < cLine) : OpR2 X (compareOp .NotIn) (rIn true) := op2_inN hu true
end
end K2

end
section
namespace K2
open PySem PySem.Spec PyProof.Rows L2
set_option autoImplicit false
section
variable {X : Cx} {a b c e o : Expr} {es : List Expr} {ta tb tc te to : TE2} {t : TA2} {pos p p2 apos cpos : Pos} {x name : Str} {id T : String}
/-! ### len, list -/
theorem call2_len : CallR2 X (.builtin "len") cLen := by
  intro pins s σ H G xs ds us Q I ab rx rd q
  unfold cLen at q
  split at q
  · rename_i x
    obtain ⟨v, rfl, r⟩ := rd.one
    have viaL : ∀ (n : Nat), LenV X.K v H n → Q (.int (n : Int)) G → wpAny (model X.prog X.w) X.A (call (.builtin "len") us) (EP2 X pins σ H G Q) X.xe s := fun n hn hq =>
      thn (call_len pins s σ H [v] us (Rch X.K H G Q) I rx ⟨v, n, rfl, hn, _, _, .refl ab, .int _, hq⟩) fun _ _ z => .of z
    have sz : sizeLine = 16777216 := sizeLine_eq
    cases r with
    | tup hq rs => exact viaL _ (.inr ⟨_, .of hq, by rw [rs.length]⟩) q
    | rol hq rs => exact viaL _ (.inl ⟨_, hq.sq, by rw [rs.length]⟩) q
    | str y =>
      unfold lenOf at q
      dsimp only at q
      by_cases hz : y.length ≤ SZ
      · rw [if_pos hz] at q; exact viaL _ ⟨by rw [sz]; exact hz, rfl⟩ q
      · rw [if_neg hz] at q; exact q.elim
    | ref l =>
      unfold lenOf at q
      dsimp only at q
      cases hg : G l with
      | none => rw [hg] at q; exact q.elim
      | some g =>
        rw [hg] at q
        cases g with
        | lst ds =>
          obtain ⟨vs, hv, rs⟩ := ab.lst hg
          exact viaL _ (.inl ⟨_, .of hv, by rw [rs.length]⟩) q
        | dic kvs =>
          obtain ⟨u, rfl, ru⟩ := rx.one
          cases ru
          dsimp only at q
          by_cases ha : (kvs.all fun p => keyOk1 p.1) = true
          · rw [if_pos ha] at q
            rcases ab l _ hg with ⟨kv, hv, rs⟩ | ⟨kv, hv, rs⟩
            · exact d_len I (.inl hv) fun t s' I' => ⟨.int kv.length, H, _, G, I', .refl ab, ⟨t, rfl⟩, .int _, by rw [rs.length]; exact q⟩
            · cases rs with
              | nil =>
                obtain ⟨z, hd, vs, rel, dd⟩ := dk_of (toK I hv).hok upd_same
                have hvs : vs = [] := by cases rel; rfl
                subst hvs
                refine call_len_dict hd dd (by simp) ?_
                exact ⟨.int 0, H, _, G, I.tok _, .refl ab, ⟨_, rfl⟩, .int _, q⟩
              | cons _ _ => simp [keyOk1] at ha
          · rw [if_neg ha] at q; exact q.elim
    | _ => exact False.elim q
  · exact q.elim
theorem call2_list : CallR2 X (.type "list") cList := by
  intro pins s σ H G xs ds us Q I ab rx rd q
  unfold cList at q
  split at q
  · rename_i x
    obtain ⟨v, rfl, r⟩ := rd.one
    have via : ∀ (l : Addr) (ys : List V) (zs : List D), v = .ref l → (SqL X.K H l ys ∨ SqT X.K H l ys) → RepDs X.K H ys zs → dNew G (.lst zs) Q → wpAny (model X.prog X.w) X.A (call (.type "list") us) (EP2 X pins σ H G Q) X.xe s := fun l ys zs e h rs hq => by
      subst e
      exact thn (call_list_of pins s σ H _ us (Rch X.K H G Q) I rx ⟨l, ys, rfl, h, fun p hp => ⟨_, _, .newL ab hp rs, .ref _, hq p (ab.free hp)⟩⟩) fun _ _ z => .of z
    cases r with
    | tup hq rs => exact via _ _ _ rfl (.inr (.of hq)) rs q
    | rol hq rs => exact via _ _ _ rfl (.inl hq.sq) rs q
    | ref l =>
      unfold itemsOf at q
      dsimp only at q
      cases hg : G l with
      | none => rw [hg] at q; exact q.elim
      | some g =>
        rw [hg] at q
        cases g with
        | lst ds =>
          obtain ⟨vs, hv, rs⟩ := ab.lst hg
          exact via _ _ _ rfl (.inl (.of hv)) rs q
        | dic kvs => exact q.elim
    | _ => exact False.elim q
  · exact q.elim
theorem pe2_callTy {r : List D → Gp → DK → Prop} (hc : CallR2 X (.type T) r) (hg : Gl X x) (hm : X.mg x = none) (hv : bootBuiltins x = some (.type T)) (ha : PA2 X (e :: es) t) (hn : x ≠ "__name__" := by decide) (hdb : (x == ("__debug__" : Str)) = false := by decide)
    (he : starEach (e :: es) X.env = (false, eval e X.env) :: starEach es X.env := by rfl) (hpl : (backTo pos (starEach es X.env)).any (·.1) = false := by rfl) : PE2 X (.Call (.Name x p) (e :: es) [] pos) (dCB r t) := by
  intro E pins s σ H τ G Q hE I h
  refine wpAny_Call_Name_kw (ld_blt I.inv hg hm hv ?_ hn hdb)
  exact PyProof.Rows.callWith_type1 (thnA ha pos hE I h fun vs H1 ds G1 us s1 I1 m1 r1 rd1 q1 => thn (hc pins s1 σ H1 G1 vs ds us Q I1.inv I1.ab r1 rd1 q1) fun _ _ z => z.trans m1) he hpl
/-! ### isinstance -/
theorem kit_ok (K : PySem.W.Frag) : ∀ C ∈ ["int", "bool", "list", "tuple", "dict", "str"], ∀ T ∈ ["NoneType", "bool", "int", "str", "tuple", "list", "dict"], PySem.W.kitOne K (.type T) (.type C) = some (T == C || (T == "bool" && C == "int")) := by
  intro C hC T hT
  simp only [List.mem_cons, List.not_mem_nil, or_false] at hC hT
  rcases hC with rfl | rfl | rfl | rfl | rfl | rfl <;> rcases hT with rfl | rfl | rfl | rfl | rfl | rfl | rfl <;> kernel_rfl
theorem isi_core (C : String) (hC : C ∈ ["int", "bool", "list", "tuple", "dict", "str"]) {pins : List (Addr × Obj)} {s : Shared} {σ : L2.St} {H : Hp} {G : Gp} {v : V} {d : D} {u : Value} {k : Bool} {Q : DK} (I : Inv X pins σ H s) (ab : AbH X.K H G) (ru : RelV v u) (r : RepD X.K H v d)
    (hk : isI C d G = some k) (q : Q (.bl k) G) : wpAny (model X.prog X.w) X.A (call (.builtin "isinstance") [u, .type C]) (EP2 X pins σ H G Q) X.xe s := by
  have fin : ∀ tk, EP2 X pins σ H G Q (.bool k) { s with toks := tk } := fun tk => ⟨.bl k, H, .bl k, G, I.tok _, .refl ab, rfl, .bl k, q⟩
  have hl : ∀ T ∈ ["NoneType", "bool", "int", "str", "tuple", "list", "dict"], k = (T == C || (T == "bool" && C == "int")) → PySem.W.kitOne X.K (.type T) (.type C) = some k := fun T hT e => by rw [kit_ok X.K C hC T hT, e]
  have tl : ∀ {l : Addr} {o : Obj}, s.heap.get? l = some o → o.cls = .type "list" → k = ("list" == C || ("list" == "bool" && C == "int")) → v = .ref l → wpAny (model X.prog X.w) X.A (call (.builtin "isinstance") [u, .type C]) (EP2 X pins σ H G Q) X.xe s := fun ho hc e ev => by
    subst ev
    cases ru
    exact PySem.W.kia_one PySem.W.kitx_list I.kIn ⟨_, ho, hc⟩ (hl "list" (by decide) e) (fun z => nomatch z) fin
  have td : ∀ {l : Addr} {o : Obj}, s.heap.get? l = some o → o.cls = .type "dict" → k = ("dict" == C || ("dict" == "bool" && C == "int")) → v = .ref l → wpAny (model X.prog X.w) X.A (call (.builtin "isinstance") [u, .type C]) (EP2 X pins σ H G Q) X.xe s := fun ho hc e ev => by
    subst ev
    cases ru
    exact PySem.W.kia_one PySem.W.kitx_dict I.kIn ⟨_, ho, hc⟩ (hl "dict" (by decide) e) (fun z => nomatch z) fin
  have cases6 : ∀ P : String → Prop, (∀ C' ∈ ["int", "bool", "list", "tuple", "dict", "str"], P C') → P C := fun P h => h C hC
  cases r with
  | non =>
    cases ru
    have e : k = ("NoneType" == C || ("NoneType" == "bool" && C == "int")) := by
      have : k = false := (Option.some.inj hk).symm
      rw [this]
      exact cases6 (fun C => false = ("NoneType" == C || ("NoneType" == "bool" && C == "int"))) (by decide)
    exact PySem.W.kia_one PySem.W.kitx_none I.kIn True.intro (hl _ (by decide) e) (fun z => nomatch z) fin
  | bl y =>
    cases ru
    have e : k = ("bool" == C || ("bool" == "bool" && C == "int")) := by
      have : k = (C == "bool" || C == "int") := (Option.some.inj hk).symm
      rw [this]
      exact cases6 (fun C => (C == "bool" || C == "int") = ("bool" == C || ("bool" == "bool" && C == "int"))) (by decide)
    exact PySem.W.kia_one PySem.W.kitx_bool I.kIn True.intro (hl _ (by decide) e) (fun z => nomatch z) fin
  | int y =>
    obtain ⟨t, rfl⟩ := ru
    have e : k = ("int" == C || ("int" == "bool" && C == "int")) := by
      have : k = (C == "int") := (Option.some.inj hk).symm
      rw [this]
      exact cases6 (fun C => (C == "int") = ("int" == C || ("int" == "bool" && C == "int"))) (by decide)
    exact PySem.W.kia_one PySem.W.kitx_int I.kIn True.intro (hl _ (by decide) e) (fun z => nomatch z) fin
  | str y =>
    obtain ⟨t, rfl⟩ := ru
    have e : k = ("str" == C || ("str" == "bool" && C == "int")) := by
      have : k = (C == "str") := (Option.some.inj hk).symm
      rw [this]
      exact cases6 (fun C => (C == "str") = ("str" == C || ("str" == "bool" && C == "int"))) (by decide)
    exact PySem.W.kia_one PySem.W.kitx_str I.kIn True.intro (hl _ (by decide) e) (fun z => nomatch z) fin
  | tup hq rs =>
    cases ru
    have e : k = ("tuple" == C || ("tuple" == "bool" && C == "int")) := by
      have : k = (C == "tuple") := (Option.some.inj hk).symm
      rw [this]
      exact cases6 (fun C => (C == "tuple") = ("tuple" == C || ("tuple" == "bool" && C == "int"))) (by decide)
    obtain ⟨its, rv, ⟨o, h1, h2, _⟩, hz⟩ := I.tuple (.of hq)
    exact PySem.W.kia_one PySem.W.kitx_tuple I.kIn ⟨o, h1, h2⟩ (hl _ (by decide) e) (fun z => nomatch z) fin
  | rol hq rs =>
    obtain ⟨its, rv, pl, hz⟩ := I.list hq.sq
    obtain ⟨o, h1, h2, _⟩ := pl.isList
    refine tl h1 h2 ?_ rfl
    have : k = (C == "list") := (Option.some.inj hk).symm
    rw [this]
    exact cases6 (fun C => (C == "list") = ("list" == C || ("list" == "bool" && C == "int"))) (by decide)
  | ref l =>
    unfold isI at hk
    dsimp only at hk
    cases hg : G l with
    | none => rw [hg] at hk; cases hk
    | some g =>
      rw [hg] at hk
      cases g with
      | lst ds =>
        obtain ⟨vs, hv, rs⟩ := ab.lst hg
        obtain ⟨its, rv, pl, hz⟩ := I.list (.of hv)
        obtain ⟨o, h1, h2, _⟩ := pl.isList
        refine tl h1 h2 ?_ rfl
        have : k = (C == "list") := (Option.some.inj hk).symm
        rw [this]
        exact cases6 (fun C => (C == "list") = ("list" == C || ("list" == "bool" && C == "int"))) (by decide)
      | dic kvs =>
        have e : k = ("dict" == C || ("dict" == "bool" && C == "int")) := by
          have : k = (C == "dict") := (Option.some.inj hk).symm
          rw [this]
          exact cases6 (fun C => (C == "dict") = ("dict" == C || ("dict" == "bool" && C == "int"))) (by decide)
        rcases ab l _ hg with ⟨kv, hv, rs⟩ | ⟨kv, hv, rs⟩
        · obtain ⟨_, _, vs, _, ob, _, _, h1, h2, _⟩ := dk_of I.hok hv
          exact td h1 h2.1 e rfl
        · obtain ⟨_, _, ys, _, ob, _, _, h1, h2, _⟩ := dt_of I.hok hv
          exact td h1 h2.1 e rfl
theorem pe2_isi (C : String) (hC : C ∈ ["int", "bool", "list", "tuple", "dict", "str"]) {y : Str} {py : Pos} (hg : Gl X "isinstance") (hm : X.mg "isinstance" = none) (hgC : Gl X y) (hmC : X.mg y = none) (hvC : bootBuiltins y = some (.type C)) (ha : PE2 X a ta) (hn : y ≠ "__name__" := by decide) (hdb : (y == ("__debug__" : Str)) = false := by decide)
    (he : starEach [a, .Name y py] X.env = (false, eval a X.env) :: starEach [.Name y py] X.env := by rfl) (hpl : (backTo pos (starEach [Expr.Name y py] X.env)).any (·.1) = false := by rfl) (he2 : starEach [.Name y py] X.env = [(false, eval (.Name y py) X.env)] := by rfl) :
    PE2 X (.Call (.Name "isinstance" p) [a, .Name y py] [] pos) (dIsi C ta) := by
  intro E pins s σ H τ G Q hE I h
  refine wpAny_Call_Name_kw (ld_blt I.inv hg hm PyProof.Rows.boot_isinstance ?_)
  refine PyProof.Rows.callWith_builtin1 ?_ he hpl
  rw [he]
  show wpAny _ _ (spliced ((false, eval a X.env) :: backTo pos (starEach [.Name y py] X.env))) _ _ s
  refine Calls.spliced_cons (thnE ha hE I h fun v H1 d G1 u s1 I1 m1 r1 rd1 q1 => ?_)
  rw [he2]
  show wpAny _ _ (spliced [(false, eval (.Name y py) X.env)]) _ _ s1
  refine Calls.spliced_cons (ld_blt I1.inv hgC hmC hvC (Calls.spliced_nil ?_) hn hdb)
  try dsimp only at q1
  split at q1
  · rename_i k hk
    exact thn (isi_core C hC I1.inv I1.ab r1 rd1 hk q1) fun _ _ z => z.trans m1
  · exact q1.elim
end
end K2

end
section
namespace K2
open PySem PySem.Spec PyProof.Rows L2
set_option autoImplicit false
section
variable {X : Cx} {a b c e o : Expr} {es : List Expr} {ta tb tc te to : TE2} {t : TA2} {pos p p2 apos cpos : Pos} {x name : Str} {id T : String}
/-! ### methods of built-in values -/
def MtR2 (X : Cx) (id : String) (r : D → List D → Gp → DK → Prop) : Prop :=
  ∀ (pins : List (Addr × Obj)) (s : Shared) (σ : L2.St) (H : Hp) (G : Gp) (x : V) (d : D) (xs : List V) (ds : List D) (v : Value) (us : List Value) (Q : DK), Inv X pins σ H s → AbH X.K H G → RelV x v → RepD X.K H x d → Vals xs us → RepDs X.K H xs ds → r d ds G Q →
    wpAny (model X.prog X.w) X.A (call (.builtin id) (v :: us)) (EP2 X pins σ H G Q) X.xe s
/-- the receiver's type -/
def TyR2 (X : Cx) (T : String) (ty : D → Gp → Prop) : Prop := ∀ (pins : List (Addr × Obj)) (s : Shared) (σ : L2.St) (H : Hp) (G : Gp) (x : V) (d : D) (v : Value), Inv X pins σ H s → AbH X.K H G → RelV x v → RepD X.K H x d → ty d G →
    s.TypeIs v T ∧ ∀ a, v = .ref a → ∃ ob, s.heap.get? a = some ob ∧ ob.dict = none
theorem ty2_list : TyR2 X "list" tyL := by
  intro pins s σ H G x d v I ab r rd h
  cases rd with
  | rol hq rs => exact tyV_is I r (.inl ⟨rfl, _, hq.sq⟩)
  | ref l =>
    unfold tyL at h
    dsimp only at h
    split at h
    · rename_i ds hg
      obtain ⟨vs, hv, rs⟩ := ab.lst hg
      exact tyV_is I r (.inl ⟨rfl, vs, .of hv⟩)
    · exact h.elim
  | _ => exact False.elim h
theorem ty2_dict : TyR2 X "dict" tyC := by
  intro pins s σ H G x d v I ab r rd h
  cases rd with
  | ref l =>
    unfold tyC at h
    dsimp only at h
    split at h
    · rename_i kvs hg
      rcases ab l _ hg with ⟨kv, hv, rs⟩ | ⟨kv, hv, rs⟩
      · exact tyV_is I r (.inr (.inr (.inl ⟨rfl, .inl ⟨kv, hv⟩⟩)))
      · exact tyV_is I r (.inr (.inr (.inl ⟨rfl, .inr ⟨kv, hv⟩⟩)))
    · exact h.elim
  | _ => exact False.elim h
theorem ty2_str : TyR2 X "str" tyS := by
  intro pins s σ H G x d v I ab r rd h
  cases rd with
  | str y => exact tyV_is (T := "str") I r rfl
  | _ => exact False.elim h
theorem pe2_bm0 {ty : D → Gp → Prop} {r : D → List D → Gp → DK → Prop} (pa : PlainAttrs T) (slot : Slot T name id) (hty : typeOf (.builtin id) = pure (.type "method_descriptor")) (ht : TyR2 X T ty) (hm : MtR2 X id r) (ho : PE2 X o to)
    (hbase : attributeBase o name X.env (eval o X.env) = eval o X.env := by rfl) (hline : (apos.endLine == cpos.line) = true := by rfl) : PE2 X (.Call (.Attribute o name apos) [] [] cpos) (dMt ty r to dNil) := by
  intro E pins s σ H τ G Q hE I h
  refine wpAny_Call_method0_late hbase hline (thnE ho hE I h fun x H1 d G1 v s1 I1 m1 r1 rd1 ⟨hy, q1⟩ => ?_)
  obtain ⟨h1, h2⟩ := ht pins s1 σ H1 G1 x d v I1.inv I1.ab r1 rd1 hy
  exact ⟨T, id, pa, slot, hty, h1, h2, Calls.callWith_builtin rfl (PySem.evalArgs_none (thn (hm pins s1 σ H1 G1 x d [] [] v [] Q I1.inv I1.ab r1 rd1 .nil .nil q1) fun _ _ z => z.trans m1))⟩
theorem pe2_bm {ty : D → Gp → Prop} {r : D → List D → Gp → DK → Prop} (pa : PlainAttrs T) (slot : Slot T name id) (hty : typeOf (.builtin id) = pure (.type "method_descriptor")) (ht : TyR2 X T ty) (hm : MtR2 X id r) (ho : PE2 X o to) (ha : PA2 X (e :: es) t)
    (hbase : attributeBase o name X.env (eval o X.env) = eval o X.env := by rfl)
    (hfew : ((backTo cpos (starEach (e :: es) X.env)).all (fun x => !x.1) && (backToKw cpos (keywordEach [] X.env)).all (fun x => x.1.isSome)
      && decide ((e :: es).length + ([] : List Keyword).length + (if ([] : List Keyword).isEmpty then 0 else 1) < 30)) = true := by rfl)
    (hline : (apos.endLine == cpos.line) = true := by rfl) (hs : starEach (e :: es) X.env = (false, eval e X.env) :: starEach es X.env := by rfl) (hplain : (backTo cpos (starEach es X.env)).any (·.1) = false := by rfl) :
    PE2 X (.Call (.Attribute o name apos) (e :: es) [] cpos) (dMt ty r to t) := by
  intro E pins s σ H τ G Q hE I h
  refine wpAny_Call_method_late hbase hfew hline rfl (thnE ho hE I h fun x H1 d G1 v s1 I1 m1 r1 rd1 ⟨hy, q1⟩ => ?_)
  obtain ⟨h1, h2⟩ := ht pins s1 σ H1 G1 x d v I1.inv I1.ab r1 rd1 hy
  refine ⟨T, id, pa, slot, hty, h1, h2, ?_⟩
  have hA := ha cpos E pins s1 σ H1 τ G1 _ hE I1 q1
  rw [hs] at hA ⊢
  refine Calls.callWith_builtin (by show (false || (backTo cpos (starEach es X.env)).any (·.1)) = false; rw [hplain] <;> rfl) (Calls.evalArgs_plain ?_)
  exact thn hA fun us s2 ⟨vs, H2, ds, G2, I2', m2, r2, rd2, q2⟩ => thn (hm pins s2 σ H2 G2 x d vs ds v us Q I2' m2.ab r1 (rd1.mono (m2.kp I1.ab)) r2 rd2 q2) fun _ _ z => z.trans (m1.trans m2)
theorem mt2_append : MtR2 X "list.append" mAppend := by
  intro pins s σ H G x d xs ds v us Q I ab rx rd rxs rds q
  unfold mAppend at q
  split at q
  · rename_i l d'
    cases rd
    obtain ⟨w, rfl, rw'⟩ := rds.one
    split at q
    · rename_i zs hg
      obtain ⟨hz, q⟩ := q
      obtain ⟨vs, hv, rs⟩ := ab.lst hg
      exact thn (mt_append pins s σ H _ _ v us (Rch X.K H G Q) I rx rxs ⟨l, vs, w, rfl, rfl, hv, by rw [rs.length, sizeLine_eq]; exact hz, _, _, .putL ab hg hv (rs.append (.cons rw' .nil)), .non, q⟩) fun _ _ z => .of z
    · exact q.elim
  · exact q.elim
theorem extend_any (l : Addr) (xs : Array Value) (n : Nat) (b : Addr) (ys : Array Value) (n2 : Nat) (dd : Option Addr) (sl : Array (Option Value)) (hlong : ¬(!xs.isEmpty && Builtin.List.listTooLong (xs.size + ys.size)) = true) (hx : xs.size ≤ sizeLine) (hxy : xs.size + ys.size ≤ sizeLine + 1) :
    Meets (Builtin.«list.extend» ⟨[.ref l, .ref b], []⟩) (fun _ R s => s.heap.get? l = some { cls := .type "list", dict := none, data := .seq xs n, slots := #[] } ∧ s.heap.get? b = some { cls := .type "list", dict := dd, data := .seq ys n2, slots := sl } ∧ R (.ok (.ret Value.none)) { s with heap := s.heap.update l (Obj.mapSeq fun x => x ++ ys), toks := s.toks }) :=
  .of_wp fun prog w A R s h => by
    obtain ⟨hp, g, d, tk, os⟩ := s
    obtain ⟨h1, h2, h3⟩ := h
    have e1 := AutoSeq1.idx_int
    have e2 := AutoSeq1.sub_tuple_tuple
    have e3 := AutoSeq1.sub_list_list
    have e4 := AutoSeq1.sub_tuple_list
    have e5 := AutoSeq1.sub_list_tuple
    have hz' : (xs ++ ys).size ≤ sizeLine + 1 := by rw [Array.size_append]; exact hxy
    wp_walk using (wpAny_updateSeq h1 rfl (hz := hx) (_hz' := hz')), wpAny_loadPart' h1, wpAny_loadPart' h2
    exact ⟨_, rfl, h3⟩
theorem mt2_extend : MtR2 X "list.extend" mExtend := by
  intro pins s σ H G x d xs ds v us Q I ab rx rd rxs rds q
  unfold mExtend at q
  split at q
  · rename_i l y
    cases rd
    obtain ⟨w, rfl, rw'⟩ := rds.one
    obtain ⟨u, rfl, ru⟩ := rxs.one
    split at q
    · rename_i zs ys hg hg2
      obtain ⟨hz, q⟩ := q
      obtain ⟨vs, hv, rs⟩ := ab.lst hg
      obtain ⟨b, ws, its2, rfl, rv2, rs2, hb, _⟩ := addL_lists I ab ru rw' hg2
      cases rx
      obtain ⟨z, its, n, r, hl, e⟩ := I.lstM hv
      obtain ⟨⟨cl, dd, dt, sl⟩, ho, hcl, n2, hdt⟩ := hb
      simp only at hcl hdt
      subst hcl hdt
      have h1 := rv2.length
      have h2 := rs2.length
      have h3 := rs.length
      have h4 := r.length
      have h5 : sizeLine = 16777216 := sizeLine_eq
      have h6 : SZ = 16777216 := rfl
      have hsz : its.toArray.size + its2.toArray.size ≤ sizeLine := by rw [List.size_toArray, List.size_toArray]; omega
      have hlong : ¬ (!its.toArray.isEmpty && Builtin.List.listTooLong (its.toArray.size + its2.toArray.size)) = true := by
        rw [notLongL hsz, Bool.and_false]
        exact Bool.false_ne_true
      refine call_meets F.slot_list_extend ⟨_, e, rfl⟩ F.entry_list_extend (F.args_list_extend_2 _ _) (extend_any l its.toArray n b its2.toArray n2 dd sl hlong (by rw [List.size_toArray]; omega) (by omega)) ⟨e, ho, ?_⟩
      refine ⟨.non, _, .non, _, I.lset (its' := its ++ its2) hv e (by simp) (r.append rv2) ?_, .putL ab hg hv (rs.append rs2), rfl, .non, q⟩
      rw [List.length_append]
      omega
    · exact q.elim
  · exact q.elim
theorem ins_eq {its : List Value} {u : Value} {k : Nat} (hk : k ≤ its.length) : (its.toArray.extract 0 k).push u ++ its.toArray.extract k = (its.take k ++ u :: its.drop k).toArray := by
  simp [List.extract_eq_take_drop]
  rw [List.take_of_length_le (by rw [List.length_drop]; omega)]
theorem mt2_insert : MtR2 X "list.insert" mInsert := by
  intro pins s σ H G x d xs ds v us Q I ab rx rd rxs rds q
  unfold mInsert at q
  split at q
  · rename_i l i d'
    cases rd
    obtain ⟨w, w2, rfl, rw1, rw2⟩ := rds.two
    cases rw1
    split at q
    · rename_i zs hg
      obtain ⟨h0, h1, hz, q⟩ := q
      obtain ⟨vs, hv, rs⟩ := ab.lst hg
      obtain ⟨u1, u2, rfl, ⟨t, rfl⟩, ru2⟩ := vals2 rxs
      cases rx
      obtain ⟨z, its, n, r, hl, e⟩ := I.lstM hv
      have sz : sizeLine = 16777216 := sizeLine_eq
      have hlen : its.length = zs.length := by rw [← hl, rs.length]
      have hs : SZ = 16777216 := rfl
      have hfit : ¬ (!Builtin.List.listFitsIndex i) = true := by
        rw [fitsIndex_both (by omega) (by omega)]
        exact Bool.false_ne_true
      refine call_meets F.slot_list_insert ⟨_, e, rfl⟩ F.entry_list_insert (F.args_list_insert_3 _ _ _)
        (AutoSeq1.list_insert_list_int_val_1 l its.toArray n i t u2 hfit (by rw [List.size_toArray]; omega)) ⟨e, ?_⟩
      have hi : i.toNat ≤ its.length := by omega
      refine ⟨.non, _, .non, _, I.lset (its' := its.take i.toNat ++ u2 :: its.drop i.toNat) (ys := vs.take i.toNat ++ w2 :: vs.drop i.toNat) hv e ?_ ((r.take _).append (.cons ru2 (r.drop _))) ?_, .putL ab hg hv ((rs.take _).append (.cons rw2 (rs.drop _))), rfl, .non, q⟩
      · dsimp only
        have e1 : (if i < 0 then (i + (its.toArray.size : Int)).toNat else min i.toNat its.toArray.size) = i.toNat := by
          rw [if_neg (by omega), List.size_toArray]; omega
        rw [e1]
        exact ins_eq hi
      · rw [List.length_append, List.length_cons, List.length_take, List.length_drop]
        omega
    · exact q.elim
  · exact q.elim
theorem mt2_clearL : MtR2 X "list.clear" mClearL := by
  intro pins s σ H G x d xs ds v us Q I ab rx rd rxs rds q
  unfold mClearL at q
  split at q
  · rename_i l
    cases rd
    have e := rds.zero
    subst e
    split at q
    · rename_i zs hg
      obtain ⟨vs, hv, rs⟩ := ab.lst hg
      exact thn (mt_clear pins s σ H _ _ v us (Rch X.K H G Q) I rx rxs ⟨l, vs, rfl, rfl, hv, _, _, .putL ab hg hv .nil, .non, q⟩) fun _ _ z => .of z
    · exact q.elim
  · exact q.elim
/-- the first place -/
theorem mt2_index (hu : X.A.units + 64 < cLine) : MtR2 X "list.index" mIndex := by
  intro pins s σ H G x d xs ds v us Q I ab rx rd rxs rds q
  unfold mIndex at q
  split at q
  · rename_i d'
    obtain ⟨hy, zs, sn, ss, hi, s1, s2, q⟩ := q
    obtain ⟨w, rfl, rw'⟩ := rds.one
    obtain ⟨u, rfl, ru⟩ := rxs.one
    have lists : ∃ l vs its, v = .ref l ∧ Vals vs its ∧ RepDs X.K H vs zs ∧ s.heap.IsList l its.toArray ∧ vs.length ≤ sizeLine := by
      cases rd with
      | rol hq rs =>
        cases hi
        cases rx
        obtain ⟨its, rv, pl, hz⟩ := I.list hq.sq
        exact ⟨_, _, its, rfl, rv, rs, pl.isList, hz⟩
      | ref l =>
        unfold itemsOf at hi
        dsimp only at hi
        cases hg : G l with
        | none => rw [hg] at hi; cases hi
        | some g =>
          rw [hg] at hi
          cases g with
          | lst ds =>
            cases hi
            cases rx
            obtain ⟨vs, hv, rs⟩ := ab.lst hg
            obtain ⟨its, rv, pl, hz⟩ := I.list (.of hv)
            exact ⟨_, _, its, rfl, rv, rs, pl.isList, hz⟩
          | dic _ => cases hi
      | _ => exact False.elim hy
    obtain ⟨l, vs, its, rfl, rv, rs, hl, hz⟩ := lists
    obtain ⟨as, ra⟩ := (rep_reads I ab s1).1 w u rw' ru
    obtain ⟨bs, rb⟩ := (rep_reads I ab s2).2 zs ss (.inl ⟨rfl, rfl⟩) vs its rs rv
    have d2 := dep_pds (n := 7) s2
    have n2 : nrs ss = true := by have := s2.nr; simpa [nr] using this
    have lays := lay_pds _ n2
    have hu' : X.A.units + 1 + min (PyData.depthAll (pds ss)) (pd sn).depth < cLine := by omega
    have rb' : ReadsAll s.heap its.toArray.toList (pds ss) bs := by simpa using rb
    have mp := SeqAt.readsAll_map _ _ _ lays rb'
    split at q
    · rename_i k hk
      obtain ⟨hlt, hhit, hno⟩ := List.findIdx?_eq_some_iff_getElem.mp hk
      have pdl : ∀ (zz : List D), (pds zz).length = zz.length := by
        intro zz
        induction zz with
        | nil => rfl
        | cons a r ih => simp [pds, ih]
      have hlen : its.length = ss.length := by
        have := congrArg List.length mp
        rw [List.length_map, pdl] at this
        simpa using this
      have at_ : ∀ (m : Nat) (h1 : m < its.toArray.size) (h2 : m < ss.length), PyData.eqv (SeqAt.readOf s.heap its.toArray[m]) (pd sn) = eqD ss[m] sn := by
        intro m h1 h2
        have e1 : (its.toArray.toList.map (SeqAt.readOf s.heap))[m]? = (pds ss)[m]? := by rw [mp]
        have pdg : ∀ (zz : List D) (m : Nat) (h : m < zz.length), (pds zz)[m]? = some (pd zz[m]) := by
          intro zz
          induction zz with
          | nil => intro m h; simp at h
          | cons a r ih => intro m h; cases m with
            | zero => simp [pds]
            | succ m => simpa [pds] using ih m (by simpa using h)
        rw [pdg ss m h2] at e1
        have h1' : m < its.length := by simpa using h1
        have e2 : SeqAt.readOf s.heap its.toArray[m] = pd ss[m] := by
          simpa [h1'] using e1
        rw [e2]
        have nrm : nr ss[m] = true := by
          have : ∀ (zz : List D) (m : Nat) (h : m < zz.length), nrs zz = true → nr zz[m] = true := by
            intro zz
            induction zz with
            | nil => intro m h; simp at h
            | cons a r ih => intro m h hn; have hn' : nr a = true ∧ nrs r = true := by simpa [nrs] using hn
                             cases m with
                             | zero => exact hn'.1
                             | succ m => exact ih m (by simpa using h) hn'.2
          exact this ss m h2 n2
        exact eqv_pd _ _ nrm s1.nr
      have sz : sizeLine = 16777216 := sizeLine_eq
      have hvl : vs.length = its.length := rv.length
      obtain ⟨⟨cls, dd, data, sl⟩, ho, hc, n, hd⟩ := id hl
      simp only at hc hd
      subst hc hd
      have hki : k < its.toArray.size := by rw [List.size_toArray]; omega
      refine call_meets PySem.F.slot_list_index ⟨_, ho, rfl⟩ PySem.F.entry_list_index (PySem.F.args_list_index_2 _ _)
        (SeqAt.list_indexAt l its.toArray n dd sl u (fun y => PyData.eqv (SeqAt.readOf s.heap y) (pd sn)) k hki (by omega) ?_ ?_) ⟨ho, SeqAt.items_eqAt rb' ra lays (lay_pd _ s1.nr) hu', ?_⟩
      · rw [at_ k hki hlt]; exact hhit
      · intro m hm hmk
        have hm2 : m < ss.length := by omega
        rw [at_ m hm hm2]
        simpa using hno m hmk
      · exact ⟨.int k, H, .int k, G, I.tok _, .refl ab, ⟨_, rfl⟩, .int _, q⟩
    · exact q.elim
  · exact q.elim
theorem mt2_setdefault : MtR2 X "dict.setdefault" mSetdefault := by
  intro pins s σ H G x d xs ds v us Q I ab rx rd rxs rds q
  unfold mSetdefault at q
  split at q
  · rename_i l k d'
    cases rd
    obtain ⟨w, w2, rfl, rw1, rw2⟩ := rds.two
    obtain ⟨u1, u2, rfl, ru1, ru2⟩ := vals2 rxs
    cases rx
    split at q
    · rename_i kvs hg
      obtain ⟨hk, hk1, q⟩ := q
      obtain ⟨H', I', m, h⟩ := dict_at I ab hg hk rw1
      have rw2' := rw2.mono (m.kp ab)
      rcases h with ⟨kv, kk, hv, rs, rfl, rfl⟩ | ⟨kv, kk, b, hv, rs, rfl, rfl, hb⟩
      · obtain ⟨z, hd, vs, rel, dd⟩ := dk_of I'.hok hv
        have hz : vs.length ≤ sizeLine := by rw [← rel.length]; exact z
        refine call_meetsIn PySem.F.slot_dict_setdefault dd.typeIs PySem.F.entry_dict_setdefault (PySem.F.args_dict_setdefault_3 _ _ _) (kt_meets_setdefault (mixKind X.prog X.w) l (kV_is ru1) hd u2)
          ⟨vs, dd, hz, fun y hy => ?_, fun hn h' dd' hs => ?_⟩
        · have ro := rel.val kk
          rw [hy] at ro
          rcases rs.look kk with ⟨v', d2, e1, e2, r⟩ | ⟨e1, e2⟩
          · rw [e1] at ro
            rw [e2] at q
            exact ⟨v', H', d2, G, I'.tok _, m, ro, r, q⟩
          · rw [e1] at ro; exact ro.elim
        · have ro := rel.val kk
          rw [hn] at ro
          rcases rs.look kk with ⟨v', d2, e1, e2, r⟩ | ⟨e1, e2⟩
          · rw [e1] at ro; exact ro.elim
          · rw [e2] at q
            obtain ⟨hlt, q⟩ := q
            have sz : sizeLine = 16777216 := sizeLine_eq
            have hl : (putK kv kk w2).length ≤ sizeLine := by have h1 := length_putK kv kk w2; have h2 := rs.length; have h3 : SZ = 16777216 := rfl; omega
            have he : ∃ ob, h'.get? l = some ob := let ⟨ob, _, _, hq, _⟩ := dd'; ⟨ob, hq⟩
            have kp : Kp H' (upd H' l (.dK (putK kv kk w2))) := .putD hv (.inl ⟨_, rfl⟩)
            exact ⟨w2, _, d', _, d_write I' (by rw [hv]; exact True.intro) hs he (dk_new hl hd (rel.put kk ru2) dd'), m.trans (.put m.ab hg kp (.dk upd_same ((rs.put kk rw2').mono kp))), ru2, rw2'.mono kp, q⟩
      · simp [keyOk1] at hk1
    · exact q.elim
  · exact q.elim
theorem pe2_dic : PE2 X (.Dict [] [] pos) dDic := by
  intro E pins s σ H τ G Q hE I h
  exact thn (pe_dnewK pins s σ H (Rch X.K H G Q) I.inv fun p hp => ⟨_, _, .new I.ab hp (.dk upd_same .nil), .ref _, h p (I.ab.free hp)⟩) fun _ _ z => .of z
end
end K2

end
section
namespace K2
open PySem PySem.Spec PyProof.Rows L2
set_option autoImplicit false
/-! ### the cells that a comprehension's block takes along -/
def takenGo (env : Env) : List (Str × NameKind) → List (Str × Addr) → List (Str × Addr)
  | [], acc => acc
  | (n, k) :: r, acc => if k = .free then takenGo env r ((n, (env.cells.lookup n).getD 0) :: acc) else takenGo env r acc
theorem closure_go (env : Env) (f : Str × NameKind → List (Str × Addr) → Sem (ForInStep (List (Str × Addr)))) (hf : ∀ n k c, f (n, k) c = if (k == NameKind.free) = true then (cellOf env n >>= fun a => pure (ForInStep.yield ((n, a) :: c))) else pure (ForInStep.yield c)) :
    ∀ (ns : List (Str × NameKind)) (acc : List (Str × Addr)), (∀ x ∈ ns, x.2 = .free → ∃ c, env.cells.lookup x.1 = some c) → forIn ns acc f = (pure (takenGo env ns acc) : Sem (List (Str × Addr)))
  | [], acc, _ => rfl
  | (n, k) :: r, acc, h => by
    rw [List.forIn_cons, hf]
    have hr : ∀ x ∈ r, x.2 = .free → ∃ c, env.cells.lookup x.1 = some c := fun x hx => h x (List.mem_cons_of_mem _ hx)
    by_cases hk : k = .free
    · subst hk
      obtain ⟨c, hc⟩ := h (n, .free) List.mem_cons_self rfl
      have ec : cellOf env n = pure c := by unfold cellOf; rw [hc]
      rw [if_pos (by decide), ec, pure_bind, pure_bind]
      show forIn r ((n, c) :: acc) f = _
      rw [closure_go env f hf r _ hr]
      show _ = (pure (takenGo env ((n, .free) :: r) acc) : Sem (List (Str × Addr)))
      rw [takenGo, if_pos rfl, hc]; rfl
    · rw [if_neg (by simpa using hk), pure_bind]
      show forIn r acc f = _
      rw [closure_go env f hf r _ hr]
      show _ = (pure (takenGo env ((n, k) :: r) acc) : Sem (List (Str × Addr)))
      rw [takenGo, if_neg hk]
theorem closure_taken {env : Env} {scope : Scope} (h : ∀ x ∈ scope.names, x.2 = .free → ∃ c, env.cells.lookup x.1 = some c) : closureFor scope env = pure (takenGo env scope.names []) := by
  unfold closureFor
  dsimp only
  rw [closure_go env _ (fun n k c => ?_) scope.names [] h]
  · rfl
  · by_cases hk : (k == NameKind.free) = true
    · simp only [hk, if_true]
    · simp only [hk, if_false, Bool.false_eq_true]
theorem taken_in {env : Env} {x : Str} {c : Addr} : ∀ {ns : List (Str × NameKind)} {acc : List (Str × Addr)}, (∀ y ∈ ns, y.2 = .free → ∃ c, env.cells.lookup y.1 = some c) → (∀ y c, acc.lookup y = some c → env.cells.lookup y = some c) → (takenGo env ns acc).lookup x = some c → env.cells.lookup x = some c
  | [], _, _, ha, e => ha _ _ e
  | (n, k) :: r, acc, h, ha, e => by
    have hr : ∀ y ∈ r, y.2 = .free → ∃ c, env.cells.lookup y.1 = some c := fun y hy => h y (List.mem_cons_of_mem _ hy)
    unfold takenGo at e
    by_cases hk : k = .free
    · rw [if_pos hk] at e
      refine taken_in hr (fun y c' q => ?_) e
      rw [List.lookup_cons] at q
      by_cases hy : (y == n) = true
      · rw [hy] at q
        have e1 : y = n := eq_of_beq hy
        subst e1
        obtain ⟨c0, hc0⟩ := h (y, k) List.mem_cons_self hk
        rw [hc0] at q ⊢
        exact q
      · have hy' : (y == n) = false := by simpa using hy
        rw [hy'] at q
        exact ha y c' q
    · rw [if_neg hk] at e
      exact taken_in hr ha e
theorem taken_some {env : Env} {x : Str} : ∀ {ns : List (Str × NameKind)} {acc : List (Str × Addr)}, ((x, NameKind.free) ∈ ns ∨ ∃ c, acc.lookup x = some c) → ∃ c, (takenGo env ns acc).lookup x = some c
  | [], _, h => by rcases h with h | h; exact absurd h (by simp); exact h
  | (n, k) :: r, acc, h => by
    unfold takenGo
    have grow : ∀ a, (∃ c, acc.lookup x = some c) → ∃ c, ((n, a) :: acc).lookup x = some c := fun a ⟨c, hc⟩ => by
      rw [List.lookup_cons]
      by_cases hy : (x == n) = true
      · rw [hy]; exact ⟨_, rfl⟩
      · have hy' : (x == n) = false := by simpa using hy
        rw [hy']; exact ⟨c, hc⟩
    by_cases hk : k = .free
    · rw [if_pos hk]
      refine taken_some ?_
      rcases h with h | h
      · rcases List.mem_cons.mp h with e | h
        · injection e with e1 e2
          subst e1
          exact .inr ⟨(env.cells.lookup x).getD 0, by rw [List.lookup_cons]; simp⟩
        · exact .inl h
      · exact .inr (grow _ h)
    · rw [if_neg hk]
      refine taken_some ?_
      rcases h with h | h
      · rcases List.mem_cons.mp h with e | h
        · injection e with e1 e2
          exact absurd e2.symm hk
        · exact .inl h
      · exact .inr h

/-- the context of a comprehension's block -/
abbrev compCx (X : Cx) (N : List Str) (scope : Scope) (C : Addr) (s : Shared) (H : Hp) (fp : List Addr) : Cx :=
  { X with env := compEnvC scope (takenGo X.env scope.names []) C X.env, N := N, s₀ := s, H₀ := H, outer := X.stack, stack := X.stack, ex := fp, fn := fun _ => false, pn := [], xe := fun _ _ => False }
theorem lookup_mem {x : Str} {k : NameKind} : ∀ {ns : List (Str × NameKind)}, ns.lookup x = some k → (x, k) ∈ ns := fun h => PySem.mem_of_lookup h
theorem relabel_cell {scope : Scope} {env : Env} {x : Str} (h : (relabel scope env).names.lookup x = some .cell ∨ (relabel scope env).names.lookup x = some .free) (hcell : ∀ y ∈ scope.names, y.2 ≠ .cell) : (x, NameKind.free) ∈ scope.names := by
  have go : ∀ k, (relabel scope env).names.lookup x = some k → k = .cell ∨ k = .free → (x, NameKind.free) ∈ scope.names := by
    intro k hk hkk
    have hm := PySem.mem_of_lookup hk
    unfold relabel at hm
    dsimp only at hm
    obtain ⟨⟨n, j⟩, hj, e⟩ := List.mem_map.mp hm
    dsimp only at e
    by_cases hc : (j == NameKind.free && env.scope.kind == .function && env.kindOf n == some .cell) = true
    · rw [if_pos hc] at e
      rw [Bool.and_eq_true, Bool.and_eq_true] at hc
      injection e with e1 e2
      have ej : j = .free := eq_of_beq hc.1.1
      rw [ej, e1] at hj
      exact hj
    · rw [if_neg hc] at e
      injection e with e1 e2
      subst e1
      rcases hkk with r | r
      · exact absurd (e2.trans r) (hcell _ hj)
      · rw [e2.trans r] at hj; exact hj
  rcases h with h | h
  · exact go _ h (.inl rfl)
  · exact go _ h (.inr rfl)
section
variable {X : Cx} {N : List Str} {scope : Scope} {fp : List Addr} {pins : List (Addr × Obj)} {σ : L2.St} {H : Hp} {s : Shared} {C : Addr}
theorem compOk (I : Inv X pins σ H s) (hcell : ∀ y ∈ scope.names, y.2 ≠ .cell) (hkind : scope.kind = .function) (hfree : ∀ y ∈ scope.names, y.2 = .free → X.env.kindOf y.1 = some .cell) (hC : s.heap.objs.size ≤ C) (hfp : ∀ b ∈ fp, FpOk X pins H b ∧ b < s.heap.objs.size) : (compCx X N scope C s H fp).Ok := by
  have hcl : ∀ y ∈ scope.names, y.2 = .free → ∃ c, X.env.cells.lookup y.1 = some c := fun y hy hf => I.ok.has _ (.inl (hfree y hy hf))
  have tin : ∀ x c, (takenGo X.env scope.names []).lookup x = some c → X.env.cells.lookup x = some c := fun x c e => taken_in hcl (fun y c q => by simp at q) e
  refine ⟨I.ok.mod, hkind, I.ok.glob, I.ok.blt, hC, fun x y c h1 h2 => I.ok.inj x y c (tin x c h1) (tin y c h2), fun x hx => ?_, fun x c h => absurd h (by simp), I.ok.hd, I.ok.frames, .inl rfl, fun b hb => ?_, I.bs, Nat.le_trans I.ok.bsz I.sz, fun b o e hb => ?_, fun b hb => ?_, I.stack, I.stkFree⟩
  · exact taken_some (.inl (relabel_cell hx hcell))
  · obtain ⟨⟨f0, f1, f2, f3, f4, f5⟩, hlt⟩ := hfp b hb
    exact ⟨Nat.ne_of_lt (Nat.lt_of_lt_of_le hlt hC), fun x c e => f4 x c (tin x c e)⟩
  · obtain ⟨⟨f0, f1, f2, f3, f4, f5⟩, hlt⟩ := hfp b hb
    rcases f3 with f3 | f3
    · exact I.ok.noex b o e f3
    · exact absurd (Nat.lt_of_lt_of_le (Heap.lt_size e) (Nat.le_trans I.ok.bsz f3)) (Nat.lt_irrefl _)
  · obtain ⟨⟨f0, f1, f2, f3, f4, f5⟩, hlt⟩ := hfp b hb
    intro z
    rcases List.mem_cons.mp (I.stkSub b z) with e | e
    · exact f1 e
    · exact f2 e
/-- the block begins -/
theorem compInv {h₁ : Heap} {m : Nat} {fr : List Nat} {tk : Nat} (I : Inv X pins σ H s) (ok : (compCx X N scope s.heap.objs.size s H fp).Ok) (hcell0 : ∀ y ∈ scope.names, y.2 ≠ .cell) (hfree : ∀ y ∈ scope.names, y.2 = .free → X.env.kindOf y.1 = some .cell) (hN : N.length = m + fr.length)
    (hfr : ∀ j i x, fr[j]? = some i → N[m + j]? = some x → X.N[i]? = some x ∧ X.env.scope.names.lookup x = some .cell ∧ (relabel scope X.env).names.lookup x = some .cell) (hns : ∃ mm, h₁.Ns s.heap.objs.size mm) (hk : ∀ b o, s.heap.get? b = some o → h₁.get? b = some o) :
    Inv (compCx X N scope s.heap.objs.size s H fp) [] (List.replicate m none ++ fr.map fun i => (σ[i]?).getD none) H { s with heap := h₁, toks := tk } := by
  have hcl : ∀ y ∈ scope.names, y.2 = .free → ∃ c, X.env.cells.lookup y.1 = some c := fun y hy hf => I.ok.has _ (.inl (hfree y hy hf))
  have tin : ∀ x c, (takenGo X.env scope.names []).lookup x = some c → X.env.cells.lookup x = some c := fun x c e => taken_in hcl (fun y c q => by simp at q) e
  obtain ⟨mm, hns⟩ := hns
  refine ⟨ok, rfl, I.bare, Un.kept hk, ⟨mm, hns, fun i x v h1 h2 h3 => ?_⟩, fun x c e => ?_, I.hok.fresh (Nat.le_refl _), fun x c e => ?_, fun p hp => absurd hp (by simp), I.hok.kept hk, ?_⟩
  · by_cases hi : i < m
    · rw [List.getElem?_append_left (by simpa using hi), List.getElem?_replicate] at h2
      split at h2 <;> cases h2
    · obtain ⟨j, rfl⟩ : ∃ j, i = m + j := ⟨i - m, by omega⟩
      rw [List.getElem?_append_right (by simp), List.length_replicate, Nat.add_sub_cancel_left, List.getElem?_map] at h2
      cases hj : fr[j]? with
      | none => rw [hj] at h2; cases h2
      | some k =>
        rw [hj] at h2
        have h2' : (σ[k]?).getD none = some v := by simpa using h2
        have hk' : σ[k]? = some (some v) := by
          cases q : σ[k]? with
          | none => rw [q] at h2'; cases h2'
          | some o => rw [q] at h2'; simp at h2'; rw [h2']
        obtain ⟨e1, e2, e3⟩ := hfr j k x hj h1
        obtain ⟨m0, hn0, hl0⟩ := I.loc
        obtain ⟨u, r, l⟩ := hl0 k x v e1 hk' (.inr (.inl e2))
        refine ⟨u, r, .inr ⟨.inl e3, ?_⟩⟩
        rcases l with ⟨l1, _⟩ | ⟨_, c, hc, hcell⟩
        · have : X.env.scope.names.lookup x = some .local := l1
          rw [e2] at this; cases this
        · have hx : (x, NameKind.free) ∈ scope.names := relabel_cell (.inl e3) hcell0
          obtain ⟨c', hc'⟩ := taken_some (env := X.env) (x := x) (ns := scope.names) (acc := []) (.inl hx)
          have := tin x c' hc'
          rw [hc] at this
          have ec : c = c' := Option.some.inj this
          subst ec
          obtain ⟨oc, hoc, hd⟩ := hcell
          exact ⟨c, hc', oc, hk _ _ hoc, hd⟩
  · obtain ⟨v, oc, hoc, hd⟩ := I.cell x c (tin x c e)
    exact ⟨v, oc, hk _ _ hoc, hd⟩
  · exact I.freeC x c (tin x c e)
  · rw [List.length_append, List.length_replicate, List.length_map]
    exact hN.symm

/-! ### the block's loop -/
theorem compLoop_own {prog : Program} {w : World} {A : Around} {R : Result → Shared → Prop} {s : Shared} {elt target iter : Expr} {ifs : List Expr} {sc : Scope} {pos : Pos} {it acc : Value} {env : Env} (J : Nat → Shared → Prop)
    (turn : ∀ n s, J n s → wpAny (model prog w) A (pyNext it) (fun r s₁ => match r with
      | none => R (.ok .next) s₁
      | some v => wpAny (model prog w) A (letOwnedTupleGo target it v) (fun _ s₁' => wpAny (model prog w) A (assign target env v) (fun _ s₂ =>
          wpAny (model prog w) A (forIn ifs true fun c r => if r = true then do let ok ← isTrue c env (eval c env); pure (ForInStep.yield ok) else pure (ForInStep.yield r)) (fun k s₃ =>
            if k = true then wpAny (model prog w) A (eval elt env) (fun x s₄ => wpAny (model prog w) A (call (.builtin "list.append") [acc, x]) (fun _ s₅ => ∃ m, m < n ∧ J m s₅) (fun _ _ => False) s₄) (fun _ _ => False) s₃
            else ∃ m, m < n ∧ J m s₃) (fun _ _ => False) s₂) (fun _ _ => False) s₁') (fun _ _ => False) s₁) (fun _ _ => False) s) (n : Nat) (h : J n s) :
    codeAny (model prog w) A (.compLoop (.ListComp elt [⟨target, iter, ifs, 0⟩] sc pos) 0 it acc env) R s := by
  have no : ∀ {α : Type} {t : Sem α} {Q : α → Shared → Prop} {E : Value → Shared → Prop} {s : Shared}, wpAny (model prog w) A t Q (fun _ _ => False) s → wpAny (model prog w) A t Q E s := fun h => wpAny_mono h (fun _ _ q => q) fun _ _ z => z.elim
  refine codeAny_loop rfl J (fun n s hJ => ?_) n h
  show wpAny _ A ((compTurn (.ListComp elt [⟨target, iter, ifs, 0⟩] sc pos) 0 it acc env).onRaise (fun x => do noteFrame x env; theTreesLotGoes x)) _ _ s
  refine wpAny_noted ?_
  rw [compTurn_list]
  refine wpAny_bind (wpAny_standAt (wpAny_bind (thn (no (turn n s hJ)) fun r s₁ h₁ => ?_)))
  cases r with
  | none => exact wpAny_pure h₁
  | some v =>
    refine wpAny_bind (thn (no h₁) fun _ s₂ h₂ => wpAny_bind (thn (no h₂) fun _ s₃ h₃ => wpAny_bind (thn (no h₃) fun k s₄ h₄ => ?_)))
    cases k with
    | false => exact wpAny_pure ⟨rfl, h₄⟩
    | true => exact wpAny_bind (wpAny_bind (thn (no h₄) fun x s₅ h₅ => wpAny_bind (thn (no h₅) fun _ s₆ h₆ => wpAny_pure (wpAny_pure ⟨rfl, h₆⟩))))
/-- what stands behind the block: the list at Dd -/
def CompEnd (X : Cx) (pins : List (Addr × Obj)) (σ : L2.St) (H : Hp) (G : Gp) (Q : DK) (C Dd : Addr) (s' : Shared) : Prop :=
  ∃ m H' G', Inv X pins σ H' s' ∧ s'.heap.Ns C m ∧ FpOk X pins H' C ∧ Mv X.K H G H' G' ∧ Q (.ref Dd) G'
/-- a test of a comprehension, or none -/
inductive PIf (Xc : Cx) : List Expr → Option TT2 → Prop
  | none : PIf Xc [] none
  | some {c : Expr} {t : TT2} : PT2 Xc c t → PIf Xc [c] (some t)
theorem comp_core {τ : St2} {G G2 : Gp} {H2 : Hp} {s2 : Shared} {tg elt iter : Expr} {ifs : List Expr} {pos : Pos} {m : Nat} {fr : List Nat} {E : XK2} {g : TG2} {c : Option TT2} {te : TE2} {J : It} {tn : Nat → Heap → Prop} {it : Addr} {ds : List D} {ok : Gp → Prop} {Q : DK} {Rr : Value → Addr → Result → Shared → Prop} {E0 : Value → Shared → Prop}
    (hc : X.calm = true) (hcell : ∀ y ∈ scope.names, y.2 ≠ .cell) (hkind : scope.kind = .function) (hfree : ∀ y ∈ scope.names, y.2 = .free → X.env.kindOf y.1 = some .cell) (hN : N.length = m + fr.length)
    (hfr : ∀ j i x, fr[j]? = some i → N[m + j]? = some x → X.N[i]? = some x ∧ X.env.scope.names.lookup x = some .cell ∧ (relabel scope X.env).names.lookup x = some .cell)
    (hg : ∀ C s H fp, PG2 (compCx X N scope C s H fp) tg g) (hi : ∀ C s H fp, PIf (compCx X N scope C s H fp) ifs c) (he : ∀ C s H fp, PE2 (compCx X N scope C s H fp) elt te)
    (I : I2 X pins σ H2 τ G2 s2) (m2 : Mv X.K H G H2 G2) (T : Turn X.prog X.w X.K tg J fp it tn) (st2 : tn 0 s2.heap) (f2 : ∀ b ∈ fp, FpOk X pins H2 b) (wk : Walk2 X.K J H2 ds ok) (hz : ds.length ≤ SZ)
    (q : compGo g c te ok ds E (compSt m fr τ) G2 [] fun xs G3 => dNew G3 (.lst xs) Q)
    (fin : ∀ C s', CompEnd X pins σ H G Q C s2.heap.objs.size s' → Rr (.ref s2.heap.objs.size) C (.ok .next) s') :
    wpAny (model X.prog X.w) X.A (newList []) (fun acc s₃ => wpAny (model X.prog X.w) X.A (newFunctionEnv scope X.env.globals (takenGo X.env scope.names []) [] X.env.qual none .none (some X.env)) (fun cenv s₄ =>
      codeAny (model X.prog X.w) X.A (.compStart (.ListComp elt [⟨tg, iter, ifs, 0⟩] scope pos) 0 (.ref it) acc { cenv with scope := relabel scope X.env }) (Rr acc cenv.locals) s₄) E0 s₃) E0 s2 := by
  have sz : sizeLine = 16777216 := sizeLine_eq
  have fresh2 : H2 s2.heap.objs.size = none := I.inv.hok.fresh (Nat.le_refl _)
  have gfree2 : G2 s2.heap.objs.size = none := I.ab.free fresh2
  refine wpAny_newObj_type (wpAny_newFunctionEnv hcell (by intro y hy; simp at hy) (fun h₁ hns₁ hsb₁ => ?_) hkind)
  dsimp only at hns₁ hsb₁ ⊢
  -- the state with the list laid
  have I3 : Inv X pins σ (upd H2 s2.heap.objs.size (.lst [])) { s2 with heap := s2.heap.push { cls := .type "list", data := .seq ([] : List Value).toArray }, toks := s2.toks } := I.inv.lnew (ys := []) .nil (Nat.zero_le _)
  generalize hs3 : ({ s2 with heap := s2.heap.push { cls := .type "list", data := .seq ([] : List Value).toArray }, toks := s2.toks } : Shared) = s3 at I3
  generalize hH3 : upd H2 s2.heap.objs.size (.lst []) = H3 at I3
  have eH3 : ∀ b, b ≠ s2.heap.objs.size → H3 b = H2 b := fun b hb => by rw [← hH3, upd_ne hb]
  have heap3 : s3.heap = s2.heap.push { cls := .type "list", data := .seq ([] : List Value).toArray } := by rw [← hs3]
  have size3 : s3.heap.objs.size = s2.heap.objs.size + 1 := by rw [heap3, Heap.size_push]
  have hfpObj : ∀ b ∈ fp, b < s2.heap.objs.size := fun b hb => by
    obtain ⟨o, e, _⟩ := T.obj _ _ st2 b hb
    exact Heap.lt_size e
  have hfp3 : ∀ b ∈ fp, FpOk X pins H3 b ∧ b < s3.heap.objs.size := fun b hb => by
    have hb2 := hfpObj b hb
    obtain ⟨f0, f1⟩ := f2 b hb
    exact ⟨⟨by rw [eH3 b (Nat.ne_of_lt hb2)]; exact f0, f1⟩, Nat.lt_of_lt_of_le hb2 (by rw [size3]; exact Nat.le_succ _)⟩
  have okc : (compCx X N scope s3.heap.objs.size s3 H3 fp).Ok := compOk I3 hcell hkind hfree (Nat.le_refl _) hfp3
  have hkeep : ∀ b o, s3.heap.get? b = some o → h₁.get? b = some o := fun b o e => by
    have hb : b < s3.heap.objs.size := Heap.lt_size e
    refine hsb₁.extBut b o ?_ (Heap.get?_push_of_some _ ?_)
    · rw [← heap3]; exact Nat.ne_of_lt hb
    · rw [← heap3]; exact e
  have hnsC : ∃ mm, h₁.Ns s3.heap.objs.size mm := ⟨_, by rw [heap3]; exact hns₁⟩
  have I4 := compInv (tk := s3.toks + ([] : List (Str × Value)).length) I3 okc hcell hfree hN hfr hnsC hkeep
  have kp23 : Kp H2 H3 := by rw [← hH3]; exact .new fresh2
  have ab3 : AbH X.K H3 G2 := by rw [← hH3]; exact (Mv.hid I.ab fresh2).ab
  have mv3 : Mv X.K H2 G2 H3 G2 := by rw [← hH3]; exact .hid I.ab fresh2
  have st3 : AbS X.K H3 (List.replicate m none ++ fr.map fun i => (σ[i]?).getD none) (compSt m fr τ) := by
    refine ⟨by unfold compSt; rw [List.length_append, List.length_append, List.length_map, List.length_map, List.length_replicate, List.length_replicate], fun i d h2 => ?_⟩
    unfold compSt at h2
    by_cases hi : i < m
    · rw [List.getElem?_append_left (by simpa using hi), List.getElem?_replicate] at h2
      split at h2 <;> cases h2
    · obtain ⟨j, rfl⟩ : ∃ j, i = m + j := ⟨i - m, by omega⟩
      rw [List.getElem?_append_right (by simp), List.length_replicate, Nat.add_sub_cancel_left, List.getElem?_map] at h2
      rw [List.getElem?_append_right (by simp), List.length_replicate, Nat.add_sub_cancel_left, List.getElem?_map]
      cases hj : fr[j]? with
      | none => rw [hj] at h2; cases h2
      | some k =>
        rw [hj] at h2
        have h2' : (τ[k]?).getD none = some d := by simpa using h2
        have hk' : τ[k]? = some (some d) := by
          cases qq : τ[k]? with
          | none => rw [qq] at h2'; cases h2'
          | some o => rw [qq] at h2'; simp at h2'; rw [h2']
        obtain ⟨v, e1, e2⟩ := I.st.at' k d hk'
        exact ⟨v, by simp [e1], e2.mono kp23⟩
  have hD3 : H3 s2.heap.objs.size = some (.lst []) := by rw [← hH3, upd_same]
  have st2' : tn 0 h₁ := T.keep _ _ _ st2 fun b hb o e => hkeep b o (by rw [heap3]; exact Heap.get?_push_of_some _ e)
  have statc : ∀ {Hc : Hp}, (∀ b ∈ fp, Hc b = none) → ∀ b ∈ fp, FpOk (compCx X N scope s3.heap.objs.size s3 H3 fp) [] Hc b := fun hn b hb =>
    ⟨hn b hb, (okc.exf b hb).1, okc.exfs b hb, .inl hb, fun x c e => (okc.exf b hb).2 x c e, fun p hp => absurd hp (by simp)⟩
  have neD : ∀ b ∈ fp, b ≠ s2.heap.objs.size := fun b hb => Nat.ne_of_lt (hfpObj b hb)
  have loop : codeAny (model X.prog X.w) X.A (.compLoop (.ListComp elt [⟨tg, iter, ifs, 0⟩] scope pos) 0 (.ref it) (.ref s2.heap.objs.size) (compCx X N scope s3.heap.objs.size s3 H3 fp).env) (Rr (.ref s2.heap.objs.size) s3.heap.objs.size)
      { s3 with heap := h₁, toks := s3.toks + ([] : List (Str × Value)).length } := by
    refine compLoop_own (fun n s' => ∃ i σc Hc τc Gc accV accD, I2 (compCx X N scope s3.heap.objs.size s3 H3 fp) [] σc Hc τc Gc s' ∧ Gc s2.heap.objs.size = none ∧ Hc s2.heap.objs.size = some (.lst accV) ∧ RepDs X.K Hc accV accD ∧ accD.length ≤ i ∧ Mv X.K H2 G2 Hc Gc ∧ tn i s'.heap ∧ (∀ b ∈ fp, Hc b = none) ∧
      n = ds.length - i ∧ i ≤ ds.length ∧ compGo g c te ok (ds.drop i) E τc Gc accD fun xs G3 => dNew G3 (.lst xs) Q) ?_ ds.length
      ⟨0, _, H3, _, G2, [], [], ⟨I4, st3, ab3⟩, gfree2, hD3, .nil, Nat.le_refl _, mv3, st2', fun b hb => by rw [eH3 b (neD b hb)]; exact (f2 b hb).1, rfl, Nat.zero_le _, q⟩
    rintro n s4 ⟨i, σc, Hc, τc, Gc, accV, accD, Ic, gD, hD, rA, hA, mc, stc, frc, rfl, hle, wq⟩
    have kpc : Kp H2 Hc := mc.kp I.ab
    by_cases hlt : i < ds.length
    · rw [List.drop_eq_getElem_cons hlt] at wq
      obtain ⟨okG, wq⟩ := wq
      obtain ⟨go, yl⟩ := (wk i Hc Gc kpc Ic.ab okG).1 ds[i] (by simp [hlt])
      refine thn (T.item (compCx X N scope s3.heap.objs.size s3 H3 fp) rfl rfl rfl hc i [] s4 σc Hc (fun _ _ => False) Ic.inv (statc frc) stc go) fun r s5 ⟨u, hr, h5⟩ => ?_
      subst hr
      refine thn h5 fun _ s6 ⟨x, H6, I6, r6, y6, st6, fr6⟩ => ?_
      obtain ⟨rd6, m6⟩ := yl x H6 y6
      have I6' := I6.pinned (statc fr6) (T.obj _ _ st6)
      have J6 : I2 (compCx X N scope s3.heap.objs.size s3 H3 fp) ([] ++ pinsAt fp s6.heap) σc H6 τc Gc s6 := ⟨I6', Ic.st.mono (m6.kp Ic.ab), m6.ab⟩
      have back : ∀ {σ9 : L2.St} {H9 : Hp} {τ9 : St2} {G9 : Gp} {s9 : Shared} {aV : List V} {aD : List D}, I2 (compCx X N scope s3.heap.objs.size s3 H3 fp) ([] ++ pinsAt fp s6.heap) σ9 H9 τ9 G9 s9 → Mv X.K H2 G2 H9 G9 → G9 s2.heap.objs.size = none → H9 s2.heap.objs.size = some (.lst aV) → RepDs X.K H9 aV aD → aD.length ≤ i + 1 →
          (compGo g c te ok (ds.drop (i + 1)) E τ9 G9 aD fun xs G3 => dNew G3 (.lst xs) Q) → ∃ mm, mm < ds.length - i ∧ ∃ i σc Hc τc Gc accV accD, I2 (compCx X N scope s3.heap.objs.size s3 H3 fp) [] σc Hc τc Gc s9 ∧ Gc s2.heap.objs.size = none ∧ Hc s2.heap.objs.size = some (.lst accV) ∧ RepDs X.K Hc accV accD ∧ accD.length ≤ i ∧
            Mv X.K H2 G2 Hc Gc ∧ tn i s9.heap ∧ (∀ b ∈ fp, Hc b = none) ∧ mm = ds.length - i ∧ i ≤ ds.length ∧ compGo g c te ok (ds.drop i) E τc Gc accD fun xs G3 => dNew G3 (.lst xs) Q := fun {σ9 H9 τ9 G9 s9 aV aD} I9 m9 g9 h9 r9 l9 n9 => by
        refine ⟨ds.length - (i + 1), by omega, i + 1, σ9, H9, τ9, G9, aV, aD, ⟨I9.inv.unpinned, I9.st, I9.ab⟩, g9, h9, r9, l9, m9, T.keep _ _ _ st6 fun b hb o e => (I9.inv.pin (b, o) (List.mem_append_right _ (List.mem_append_right _ (mem_pinsAt hb e)))).1, fun b hb => ?_, rfl, hlt, n9⟩
        obtain ⟨o, e, d⟩ := T.obj _ _ st6 b hb
        exact (I9.inv.pin (b, o) (List.mem_append_right _ (List.mem_append_right _ (mem_pinsAt hb e)))).2.1
      have mc6 := mc.trans m6
      have hD6 := m6.keep _ _ hD gD
      refine thn (hg _ _ _ _ E _ s6 σc H6 τc Gc x ds[i] u _ trivial J6 r6 rd6 wq) fun _ s7 ⟨σ7, H7, τ7, G7, I7, m7, q7⟩ => ?_
      have hD7 := m7.keep _ _ hD6.1 gD
      have mc7 := mc6.trans m7
      have rA7 := rA.mono ((m6.trans m7).kp Ic.ab)
      have elt_ : ∀ (H8 : Hp) (G8 : Gp) (s8 : Shared), I2 (compCx X N scope s3.heap.objs.size s3 H3 fp) ([] ++ pinsAt fp s6.heap) σ7 H8 τ7 G8 s8 → Mv X.K H7 G7 H8 G8 → (te E τ7 G8 fun y G9 => compGo g c te ok (ds.drop (i + 1)) E τ7 G9 (accD ++ [y]) fun xs G3 => dNew G3 (.lst xs) Q) →
          wpAny (model X.prog X.w) X.A (eval elt (compCx X N scope s3.heap.objs.size s3 H3 fp).env) (fun y s₄ => wpAny (model X.prog X.w) X.A (call (.builtin "list.append") [.ref s2.heap.objs.size, y]) (fun _ s₅ => ∃ mm, mm < ds.length - i ∧ ∃ i σc Hc τc Gc accV accD, I2 (compCx X N scope s3.heap.objs.size s3 H3 fp) [] σc Hc τc Gc s₅ ∧ Gc s2.heap.objs.size = none ∧ Hc s2.heap.objs.size = some (.lst accV) ∧ RepDs X.K Hc accV accD ∧ accD.length ≤ i ∧
            Mv X.K H2 G2 Hc Gc ∧ tn i s₅.heap ∧ (∀ b ∈ fp, Hc b = none) ∧ mm = ds.length - i ∧ i ≤ ds.length ∧ compGo g c te ok (ds.drop i) E τc Gc accD fun xs G3 => dNew G3 (.lst xs) Q) (fun _ _ => False) s₄) (fun _ _ => False) s8 := fun H8 G8 s8 I8 m8 q8 => by
        refine thnE (he _ _ _ _) trivial I8 q8 fun v H9 d9 G9 u9 s9 I9 m9 r9 rd9 q9 => ?_
        have m79 := m8.trans m9
        have hD9 := m79.keep _ _ hD7.1 hD7.2
        have rA9 := rA7.mono (m79.kp I7.ab)
        have mc9 := mc7.trans m79
        refine thn (mt_append (X := compCx X N scope s3.heap.objs.size s3 H3 fp) _ s9 σ7 H9 (.ref s2.heap.objs.size) [v] _ [u9] (fun _ H' => H' = upd H9 s2.heap.objs.size (.lst (accV ++ [v]))) I9.inv rfl (.cons r9 .nil)
          ⟨_, accV, v, rfl, rfl, hD9.1, by rw [rA.length, sz]; have : SZ = 16777216 := rfl; omega, rfl⟩) fun _ s10 ⟨v10, H10, I10, _, e10⟩ => ?_
        subst e10
        have kpA : Kp H9 (upd H9 s2.heap.objs.size (.lst (accV ++ [v]))) := .putL hD9.1
        have abA : AbH X.K (upd H9 s2.heap.objs.size (.lst (accV ++ [v]))) G9 := fun a g' e => by
          have ne : a ≠ s2.heap.objs.size := by rintro rfl; rw [hD9.2] at e; cases e
          exact (I9.ab a g' e).mono kpA (upd_ne ne)
        have mA : Mv X.K H2 G2 (upd H9 s2.heap.objs.size (.lst (accV ++ [v]))) G9 := ⟨fun a o e n => by
            have ne : a ≠ s2.heap.objs.size := ne_of_none e fresh2
            obtain ⟨e1, e2⟩ := mc9.keep a o e n
            exact ⟨by rw [upd_ne ne]; exact e1, e2⟩, fun a n => by
            by_cases ha : a = s2.heap.objs.size
            · rw [ha, upd_same]; simp
            · rw [upd_ne ha]; exact mc9.stay a n, abA⟩
        exact back ⟨I10, I9.st.mono kpA, abA⟩ mA hD9.2 upd_same ((rA9.append (.cons rd9 .nil)).mono kpA) (by rw [List.length_append, List.length_singleton]; omega) q9
      cases hi s3.heap.objs.size s3 H3 fp with
      | none =>
        refine wpAny_tests_nil ?_
        rw [if_pos rfl]
        exact elt_ H7 G7 s7 I7 (.refl I7.ab) q7
      | some hcond =>
        refine wpAny_tests_one (thnT hcond trivial I7 q7 fun k H8 G8 s8 I8 m8 q8 => ?_)
        cases k with
        | true =>
          rw [if_pos rfl] at q8 ⊢
          exact elt_ H8 G8 s8 I8 m8 q8
        | false =>
          rw [if_neg Bool.false_ne_true] at q8 ⊢
          have hD8 := m8.keep _ _ hD7.1 hD7.2
          exact back I8 (mc7.trans m8) hD8.2 hD8.1 (rA7.mono (m8.kp I7.ab)) (by omega) q8
    · have hn : ds.length ≤ i := by omega
      rw [List.drop_eq_nil_of_le hn] at wq
      obtain ⟨okG, qn⟩ := wq
      have stop := (wk i Hc Gc kpc Ic.ab okG).2 hn
      refine thn (T.done (compCx X N scope s3.heap.objs.size s3 H3 fp) rfl rfl rfl hc i [] s4 σc Hc (fun _ _ => False) Ic.inv (statc frc) stc stop) fun r s5 ⟨hr, I5⟩ => ?_
      subst hr
      refine fin s3.heap.objs.size s5 ?_
      obtain ⟨mm, hns5, _⟩ := I5.loc
      have hC5 : Hc s3.heap.objs.size = none := I5.free
      have I6 : Inv X pins σ Hc s5 := by
        obtain ⟨h5, g5, d5, t5, o5⟩ := s5
        have eo : o5 = s3.os := I5.os
        subst eo
        exact I3.call (h' := h5) (g' := g5) (d' := d5) (t' := t5) (ch := fp) I5.base I5.hok I5.bare fun b hb => by
          obtain ⟨⟨f0, f1, f2', f3, f4, f5⟩, hl⟩ := hfp3 b hb
          exact ⟨f3, f1, f4, f5⟩
      have mvF : Mv X.K H2 G2 Hc (updG Gc s2.heap.objs.size (.lst accD)) := ⟨fun a o e n => by
          have ne : a ≠ s2.heap.objs.size := ne_of_none e fresh2
          obtain ⟨e1, e2⟩ := mc.keep a o e n
          exact ⟨e1, by rw [updG_ne ne]; exact e2⟩, mc.stay, fun a g' e => by
          by_cases ha : a = s2.heap.objs.size
          · subst ha
            rw [updG_same] at e
            cases e
            exact ⟨accV, hD, rA⟩
          · rw [updG_ne ha] at e
            exact Ic.ab a g' e⟩
      exact ⟨mm, Hc, _, I6, hns5, I3.fpOk (Nat.le_refl _) hC5, m2.trans mvF, qn _ gD⟩
  have all : codeAny (model X.prog X.w) X.A (.compStart (.ListComp elt [⟨tg, iter, ifs, 0⟩] scope pos) 0 (.ref it) (.ref s2.heap.objs.size) (compCx X N scope s3.heap.objs.size s3 H3 fp).env) (Rr (.ref s2.heap.objs.size) s3.heap.objs.size)
      { s3 with heap := h₁, toks := s3.toks + ([] : List (Str × Value)).length } := codeAny_compStart_list loop (T.self _ 0 _ _ _ st2' loop)
  subst hs3
  exact all
end
end K2

end
section
namespace K2
open PySem PySem.Spec PyProof.Rows L2
set_option autoImplicit false
section
variable {X : Cx} {N : List Str} {scope : Scope} {tg elt iter : Expr} {ifs : List Expr} {pos : Pos} {m : Nat} {fr : List Nat} {wi : TI2} {g : TG2} {c : Option TT2} {te : TE2}
/-- what a comprehension's block must have -/
structure CompOk (X : Cx) (N : List Str) (scope : Scope) (m : Nat) (fr : List Nat) : Prop where
  cell : ∀ y ∈ scope.names, y.2 ≠ .cell
  kind : scope.kind = .function
  names : ∀ y ∈ scope.names, y.2 = .local → scope.names.lookup y.1 = some .local
  free : ∀ y ∈ scope.names, y.2 = .free → X.env.kindOf y.1 = some .cell
  len : N.length = m + fr.length
  at' : ∀ j i x, fr[j]? = some i → N[m + j]? = some x → X.N[i]? = some x ∧ X.env.scope.names.lookup x = some .cell ∧ (relabel scope X.env).names.lookup x = some .cell
theorem CompOk.closed {X : Cx} {N : List Str} {scope : Scope} {m : Nat} {fr : List Nat} (k : CompOk X N scope m fr) {pins : List (Addr × Obj)} {σ : L2.St} {H : Hp} {s : Shared} (I : Inv X pins σ H s) : closureFor scope X.env = pure (takenGo X.env scope.names []) :=
  closure_taken fun y hy hf => I.ok.has _ (.inl (k.free y hy hf))
theorem pe2_compG (hc : X.calm = true) (k : CompOk X N scope m fr) (hi : PI2 X tg iter wi) (hg : ∀ C s H fp, PG2 (compCx X N scope C s H fp) tg g) (hif : ∀ C s H fp, PIf (compCx X N scope C s H fp) ifs c) (he : ∀ C s H fp, PE2 (compCx X N scope C s H fp) elt te)
    (hs : ∀ x, foldedSetIterable iter X.env x = pure x := by intro _; rfl) : PE2 X (.ListComp elt [⟨tg, iter, ifs, 0⟩] scope pos) (dComp m fr wi g c te) := by
  intro E pins s σ H τ G Q hE I h
  rw [eval_ListComp]
  refine wpAny_comprehension_free (use := none) rfl hs (k.closed I.inv) k.kind k.names (thn (hi E pins s σ H τ G _ hE I h) fun xv s₁ h₁ => thn h₁ fun itv s₂ h₂ => ?_)
  obtain ⟨it, fp, tn, J, H2, G2, ds, ok, e, I2', m2, T, st2, f2, wk, hz, q⟩ := h₂
  subst e
  refine comp_core (Rr := fun acc C => compPost (model X.prog X.w) X.A X.xe none (EP2 X pins σ H G Q) acc C) hc k.cell k.kind k.free k.len k.at' hg hif he (I.mv I2' m2) m2 T st2 f2 wk hz q fun C s' ⟨mm, H', G', I', hns, fpC, mv, q'⟩ => ⟨mm, hns, fun h' hs' => ?_⟩
  obtain ⟨f0, f1, _, f3, f4, f5⟩ := fpC
  exact ⟨.ref _, H', .ref _, G', I'.turned (t' := s'.toks) (fun b o hb e => hs'.extBut b o hb e) f0 f1 f3 f4 f5, mv, rfl, .ref _, q'⟩
/-- name = [..] on one line, the name a plain local -/
theorem ps2_setComp {i : Nat} {y : Str} {py spos : Pos} (hN : X.N.Nodup) (hyi : X.N[i]? = some y) (hy : X.env.scope.names.lookup y = some .local) (hc : X.calm = true) (k : CompOk X N scope m fr) (hi : PI2 X tg iter wi) (hg : ∀ C s H fp, PG2 (compCx X N scope C s H fp) tg g)
    (hif : ∀ C s H fp, PIf (compCx X N scope C s H fp) ifs c) (he : ∀ C s H fp, PE2 (compCx X N scope C s H fp) elt te) (hsw : swapsWith (.ListComp elt [⟨tg, iter, ifs, 0⟩] scope pos) (some (.Name y py)) spos.line X.env = pure true := by rfl)
    (hs : ∀ x, foldedSetIterable iter X.env x = pure x := by intro _; rfl) : PS2 X (.Assign [.Name y py] (.ListComp elt [⟨tg, iter, ifs, 0⟩] scope pos) spos) (dAsg (dComp m fr wi g c te) (gName i)) := by
  intro E pins s σ H τ G D hE I h
  rw [exec_Assign_Name_used _ _ _ _ hsw]
  refine wpAny_bind (wpAny_standAt (wpAny_bind ?_))
  show wpAny _ X.A (do let _ ← comprehension (.ListComp elt [⟨tg, iter, ifs, 0⟩] scope pos) scope X.env _ (newList []) false (eval iter X.env) (some (assign (.Name y py) X.env))) _ _ s
  refine wpAny_bind (thn (wpAny_comprehension_free (use := some (assign (.Name y py) X.env)) (Q := fun _ s' => SP2 X pins H G D .next s') rfl hs (k.closed I.inv) k.kind k.names (thn (hi E pins s σ H τ G _ hE I h) fun xv s₁ h₁ => thn h₁ fun itv s₂ h₂ => ?_)) fun _ s' hq => wpAny_pure (wpAny_pure hq))
  obtain ⟨it, fp, tn, J, H2, G2, ds, ok, e, I2', m2, T, st2, f2, wk, hz, q⟩ := h₂
  subst e
  refine comp_core (Rr := fun acc C => compPost (model X.prog X.w) X.A X.xe (some (assign (.Name y py) X.env)) (fun _ s' => SP2 X pins H G D .next s') acc C) hc k.cell k.kind k.free k.len k.at' hg hif he (I.mv I2' m2) m2 T st2 f2 wk hz q fun C s' ⟨mm, H', G', I', hns, fpC, mv, q'⟩ => ?_
  show wpAny (model X.prog X.w) X.A (assign (.Name y py) X.env (.ref s₂.heap.objs.size)) _ X.xe s'
  obtain ⟨f0, f1, _, f3, f4, f5⟩ := fpC
  refine wpAny_assign_Name (store_ok2 (v := .ref s₂.heap.objs.size) I' hN hyi (.inl hy) rfl (fun s3 I3 ⟨a, hsb, ha⟩ => ?_) (.inr hy))
  have hCa : C ≠ a := by
    rcases ha with rfl | ha
    · exact f1
    · exact fun e => f4 y a ha e.symm
  refine ⟨mm, hns.sameBut hsb hCa, fun h' hs' => ?_⟩
  exact ⟨_, H', _, G', ⟨I3.turned (t' := s3.toks) (fun b o hb e => hs'.extBut b o hb e) f0 f1 f3 f4 f5, (I.st.mono (mv.kp I.ab)).set i (.ref _), mv.ab⟩, mv, q'⟩
theorem glen_name {i : Nat} {u : TGs2} {n : Nat} (h : ∀ E ds τ G Q, u E ds τ G Q → ds.length = n) : ∀ E ds τ G Q, gCons (gName i) u E ds τ G Q → ds.length = n + 1 :=
  glen_cons h (fun _ _ _ _ _ _ q k => k _ _ q) fun _ _ _ _ q => q
theorem pv2 (i : Nat) {x : Str} {pos : Pos} (hN : X.N[i]? = some x := by rfl) (hv : Vis X.env.scope x := by first | exact Or.inl rfl | exact Or.inr (Or.inl rfl) | exact Or.inr (Or.inr rfl)) (hd : (x == ("__debug__" : Str)) = false := by decide)
    (hcd : (x == ("__classdict__" : Str)) = false := by decide) : PE2 X (.Name x pos) (dVar i) := pe2_var hN hv hd hcd

/-! ### all, any -/
theorem range_all (bs : List Bool) : (List.range bs.length).all (fun i => bs.getD i true) = bs.all id := by
  rw [Bool.eq_iff_iff, List.all_eq_true, List.all_eq_true]
  constructor
  · intro h b hb
    obtain ⟨i, hi, e⟩ := List.getElem_of_mem hb
    have := h i (List.mem_range.mpr hi)
    rw [List.getD_eq_getElem?_getD, List.getElem?_eq_getElem hi, e] at this
    exact this
  · intro h i hi
    have hi' := List.mem_range.mp hi
    rw [List.getD_eq_getElem?_getD, List.getElem?_eq_getElem hi']
    exact h _ (List.getElem_mem hi')
theorem range_any (bs : List Bool) : (List.range bs.length).any (fun i => bs.getD i true) = bs.any id := by
  rw [Bool.eq_iff_iff, List.any_eq_true, List.any_eq_true]
  constructor
  · rintro ⟨i, hi, h⟩
    have hi' := List.mem_range.mp hi
    rw [List.getD_eq_getElem?_getD, List.getElem?_eq_getElem hi'] at h
    exact ⟨_, List.getElem_mem hi', h⟩
  · rintro ⟨b, hb, h⟩
    obtain ⟨i, hi, e⟩ := List.getElem_of_mem hb
    refine ⟨i, List.mem_range.mpr hi, ?_⟩
    rw [List.getD_eq_getElem?_getD, List.getElem?_eq_getElem hi, e]
    exact h
theorem reps_bools {K : PySem.W.Frag} {H : Hp} : ∀ {vs : List V} {bs : List Bool} {its : List Value}, RepDs K H vs (bs.map D.bl) → Vals vs its → its = bs.map Value.bool
  | _, [], _, r, h => by rw [List.map_nil] at r; rw [r.zero] at h; cases h; rfl
  | _, b :: bs, _, r, h => by
    rw [List.map_cons] at r
    cases r with
    | cons r1 r2 =>
      cases r1
      cases h with
      | cons h1 h2 =>
        cases h1
        rw [reps_bools r2 h2]; rfl
/-- a list's items, as they lie -/
theorem list_items {pins : List (Addr × Obj)} {s : Shared} {σ : L2.St} {H : Hp} {G : Gp} {x : V} {d : D} {v : Value} {zs : List D} (I : Inv X pins σ H s) (ab : AbH X.K H G) (rx : RelV x v) (rd : RepD X.K H x d) (hi : itemsOf d G = some zs) :
    ∃ l vs its, v = .ref l ∧ Vals vs its ∧ RepDs X.K H vs zs ∧ (s.heap.IsList l its.toArray ∨ s.heap.IsTuple l its.toArray) ∧ vs.length ≤ sizeLine := by
  cases rd with
  | rol hq rs =>
    cases hi
    cases rx
    obtain ⟨its, rv, pl, hz⟩ := I.list hq.sq
    exact ⟨_, _, its, rfl, rv, rs, .inl pl.isList, hz⟩
  | tup hq rs =>
    cases hi
    cases rx
    obtain ⟨its, rv, pl, hz⟩ := I.tuple (.of hq)
    exact ⟨_, _, its, rfl, rv, rs, .inr pl, hz⟩
  | ref l =>
    unfold itemsOf at hi
    dsimp only at hi
    cases hg : G l with
    | none => rw [hg] at hi; cases hi
    | some gg =>
      rw [hg] at hi
      cases gg with
      | lst ds =>
        cases hi
        cases rx
        obtain ⟨vs, hv, rs⟩ := ab.lst hg
        obtain ⟨its, rv, pl, hz⟩ := I.list (.of hv)
        exact ⟨_, _, its, rfl, rv, rs, .inl pl.isList, hz⟩
      | dic _ => cases hi
  | _ => cases hi
theorem call2_all (hc : X.calm = true) : CallR2 X (.builtin "all") cAll := by
  intro pins s σ H G xs ds us Q I ab rx rd q
  unfold cAll at q
  split at q
  · rename_i x
    obtain ⟨bs, hb, q⟩ := q
    obtain ⟨v, rfl, r⟩ := rd.one
    obtain ⟨u, rfl, ru⟩ := rx.one
    obtain ⟨l, vs, its, rfl, rv, rs, hl, hz⟩ := list_items I ab ru r hb
    have ei := reps_bools rs rv
    have hlen : its.length = bs.length := by rw [ei, List.length_map]
    have hne : ∀ {o : Obj}, s.heap.get? l = some o → l ≠ s.heap.objs.size := fun e => Nat.ne_of_lt (Heap.lt_size e)
    have tr : TruthOf X.prog X.w X.A.in1 (fun i v => its.toArray[i]? = some v) (fun i => bs.getD i true) := fun i v s' Q' E' hv hq => by
      subst ei
      have hv' : (bs.map Value.bool)[i]? = some v := by simpa using hv
      rw [List.getElem?_map] at hv'
      cases hbi : bs[i]? with
      | none => rw [hbi] at hv'; cases hv'
      | some b =>
        rw [hbi] at hv'
        cases hv'
        dsimp only at hq
        rw [List.getD_eq_getElem?_getD, hbi] at hq
        exact wpAny_truthy_bool hq
    have fin : ∀ h' tk, (∀ b o, b ∉ [s.heap.objs.size] → s.heap.get? b = some o → h'.get? b = some o) → EP2 X pins σ H G Q (.bool ((List.range its.toArray.size).all fun i => bs.getD i true)) { s with heap := h', toks := tk } := fun h' tk hk => by
      rw [List.size_toArray, hlen, range_all]
      exact ⟨.bl _, H, .bl _, G, I.kept fun b o e => hk b o (by simpa using Nat.ne_of_lt (Heap.lt_size e)) e, .refl ab, rfl, .bl _, q⟩
    rcases hl with hl | hl
    · refine call_all_walk (wpAny_pyIter_list hl ?_)
      obtain ⟨o, ho, hcl, n, hd⟩ := id hl
      exact ⟨s.heap.objs.size, _, _, _, _, _, _, rfl, Walks.list (A := X.A.in1) (show X.A.in1.handled = none from I.ok.hd hc) _ l (hne ho) its.toArray, ⟨⟨_, Heap.get?_push_size _ rfl, rfl, rfl⟩, ⟨o, Heap.get?_push_of_some _ ho, hcl, n, hd⟩⟩, tr, fun h' tk hk => fin h' tk fun b o hb e => hk b o hb (Heap.get?_push_of_some _ e)⟩
    · refine call_all_walk (wpAny_pyIter_tuple hl ?_)
      obtain ⟨o, ho, hcl, n, hd⟩ := id hl
      exact ⟨s.heap.objs.size, _, _, _, _, _, _, rfl, Walks.tuple (A := X.A.in1) (show X.A.in1.handled = none from I.ok.hd hc) _ l (hne ho) its.toArray, ⟨⟨_, Heap.get?_push_size _ rfl, rfl, rfl⟩, ⟨o, Heap.get?_push_of_some _ ho, hcl, n, hd⟩⟩, tr, fun h' tk hk => fin h' tk fun b o hb e => hk b o hb (Heap.get?_push_of_some _ e)⟩
  · exact q.elim

/-! ### a def by its body -/
theorem pss_of {body : List Stmt} {t2 : TS2} (h : PSs2 X body t2) {E : XK2} (hE : Lk X E) : PSs X body (fun D σ H => ∃ (τ : St2) (G : Gp) (D2 : Ends2), AbS X.K H σ τ ∧ AbH X.K H G ∧ t2 E D2 τ G ∧
    (∀ σ' H' τ' G', Mv X.K H G H' G' → D2.nx τ' G' → D.nx σ' H') ∧ (∀ v H' d G', Mv X.K H G H' G' → RepD X.K H' v d → D2.rt d G' → D.rt v H') ∧ (∀ τ G, ¬ D2.bk τ G) ∧ (∀ τ G, ¬ D2.ct τ G)) := by
  intro pins s σ H D I ⟨τ, G, D2, st, ab, q, k1, k2, k3, k4⟩
  refine thn (h E pins s σ H τ G D2 hE ⟨I, st, ab⟩ q) fun f s1 z => ?_
  cases f with
  | next => obtain ⟨σ', H', τ', G', J, mv, z⟩ := z; exact ⟨σ', H', J.inv, k1 σ' H' τ' G' mv z⟩
  | brk => obtain ⟨σ', H', τ', G', J, mv, z⟩ := z; exact (k3 _ _ z).elim
  | cont => obtain ⟨σ', H', τ', G', J, mv, z⟩ := z; exact (k4 _ _ z).elim
  | ret u => obtain ⟨v, σ', H', d, G', J, mv, r, rd, z⟩ := z; exact ⟨v, σ', H', J, r, k2 v H' d G' mv rd z⟩
theorem start_ab {K : PySem.W.Frag} {H : Hp} {Nn : List Str} {vs : List V} {ds : List D} (r : RepDs K H vs ds) : AbS K H (L2.start Nn vs) (start2 Nn.length ds) := by
  unfold L2.start start2
  refine ⟨by simp [r.length], fun i d h => ?_⟩
  by_cases hi : i < ds.length
  · rw [List.getElem?_append_left (by simpa using hi), List.getElem?_map] at h
    cases hd : ds[i]? with
    | none => rw [hd] at h; cases h
    | some d' =>
      rw [hd] at h
      have e : d' = d := by simpa using h
      subst e
      obtain ⟨v, h1, h2⟩ := r.get hd
      refine ⟨v, ?_, h2⟩
      rw [List.getElem?_append_left (by simpa [r.length] using hi), List.getElem?_map, h1]; rfl
  · rw [List.getElem?_append_right (by simpa using hi), List.getElem?_replicate] at h
    split at h <;> cases h
theorem fun_ok2 {P : Program} {w : World} {K : PySem.W.Frag} {mg : Str → Option Value} {base : Heap} {x qual : Str} {st : Stmt} {f : Addr} {fd : FuncData} {Nn ps : List Str} {k : Nat} {sp : Sp2} {rd : TS2} (F : Fun K x qual st f fd) (S : FnScope Nn ps (defScope st)) (len : ∀ ds G Q E, sp ds G Q E → ds.length = ps.length)
    (hr : ∀ ds G Q, sp ds G Q (fun _ _ => False) → rd (fun _ _ => False) (ends Q) (start2 Nn.length ds) G)
    (hb : ∀ (cdv : Value) (A : Around) (outer : List Env) (s : Shared) (H : Hp) (E : XK), Room k (A.deeper (envOfC qual (defScope st) s.heap.objs.size f cdv)) → PSs2 (cxOf CX0 P w K mg base Nn qual (defScope st) f cdv A outer s H E).nox (defBody st) rd) : FnOk P w K mg base CX0 (k + 1) f fd ps (spOf K sp) := by
  refine F.ok S (fun vs H Q E ⟨ds, G, Q2, r, ab, q, _⟩ => by rw [r.length]; exact len _ _ _ _ q) fun cdv A outer s H vs Q E hroom ⟨ds, G, Q2, r, ab, q, kk⟩ => ?_
  refine ⟨_, pss_of (hb cdv A outer s H E hroom) (E := fun _ _ => False) trivial, ?_⟩
  exact ⟨start2 Nn.length ds, G, ends Q2, start_ab r, ab, hr ds G Q2 q, fun σ' H' τ' G' mv z => kk _ _ _ _ z mv .non, fun v H' d G' mv rdv z => kk _ _ _ _ z mv rdv, fun _ _ z => z, fun _ _ z => z⟩

/-! ### min: the walk, where a comparison leans on the heap -/
section
variable {prog : Program} {w : World} {A : Around} {R : Result → Shared → Prop} {It0 : Addr} {fq wr : List Addr} {n : Nat} {P : Nat → Value → Prop} {Sx : Nat → Heap → Prop}
theorem min_go (W : Walks prog w A.in1 It0 fq wr n P Sx) (bt : Nat → Nat → Bool) (T : Heap → Prop) (B : Addr) (hB : B ∉ fq) (hT : ∀ h h', T h → (∀ b o, b ∉ wr → b ≠ B → h.get? b = some o → h'.get? b = some o) → T h')
    (cmp : ∀ i j x y s (Q : Value → Shared → Prop) (E : Value → Shared → Prop), T s.heap → P i x → P j y → Q (.bool (bt i j)) s → wpAny (model prog w) A.in1 (richCompare .Lt x y) Q E s) :
    ∀ (k j : Nat) (s : Shared) (best : Value) (cc : Nat), n - (j + 1) = k → j + 1 ≤ n → Sx (j + 1) s.heap → T s.heap → P (argBest bt j) best →
    s.heap.get? B = some { cls := .type "list", dict := none, data := .seq #[best, best] cc, slots := #[] } →
    (∀ v h' tk, P (argBest bt (n - 1)) v → (∀ b o, b ∉ wr → b ≠ B → s.heap.get? b = some o → h'.get? b = some o) → R (.ok (.ret v)) { s with heap := h', toks := tk }) →
    codeAny (model prog w) A (.builtin "min.loop" ⟨[.ref It0, .none, .ref B], []⟩) R s := by
  have hBw : B ∉ wr := fun z => hB (W.sub _ z)
  have nm : (toString "min" ++ toString ".loop" : String) = "min.loop" := by decide
  intro k
  induction k with
  | zero =>
    intro j s best cc hk hj hs ht hp hb hR
    have ej : j + 1 = n := by omega
    refine codeAny_builtin F.entry_min_loop ?_; rw [Around.under_plainId F.plain_min_loop _]
    show wpAny _ A.in1 (seqItems? (.ref B) >>= _) _ _ s; refine wpAny_bind (wpAny_seqItems hb rfl ?_)
    show wpAny _ A.in1 (tryCatch (pyNext (.ref It0)) _ >>= _) _ _ s; refine wpAny_bind (wpAny_tryCatch (W.done s _ _ (ej ▸ hs) fun h' tk kept => ?_))
    have hb' := kept B _ hBw hb
    show wpAny _ A.in1 (updateSeq B (fun _ => #[]) >>= _) _ _ _; refine wpAny_bind ?_
    refine wpAny_updateSeq hb' rfl (wpAny_bind (wpAny_letGo (wpAny_pure ?_)))
    exact hR best _ tk (by rw [← ej]; exact hp) fun b o z1 z2 e => (Heap.get?_update_other _ _ (Ne.symm z2)).trans (kept b o z1 e)
  | succ k ih =>
    intro j s best cc hk hj hs ht hp hb hR
    have lt : j + 1 < n := by omega
    refine codeAny_builtin F.entry_min_loop ?_; rw [Around.under_plainId F.plain_min_loop _]
    show wpAny _ A.in1 (seqItems? (.ref B) >>= _) _ _ s; refine wpAny_bind (wpAny_seqItems hb rfl ?_)
    show wpAny _ A.in1 (tryCatch (pyNext (.ref It0)) _ >>= _) _ _ s; refine wpAny_bind (wpAny_tryCatch (W.item (j + 1) s _ _ lt hs fun v h' tk pv st' kept => ?_))
    have hb' := kept B _ hBw hb
    have ht' : T h' := hT _ _ ht fun b o z1 _ e => kept b o z1 e
    show wpAny _ A.in1 (tryCatch (holding [v, v] (richCompare .Lt v best >>= _)) _ >>= _) _ _ _
    refine wpAny_bind (wpAny_tryCatch (wpAny_holding (wpAny_bind (cmp (j + 1) (argBest bt j) v best _ _ _ ht' pv hp ?_)))); refine wpAny_bind (wpAny_holding (wpAny_truthy_bool ?_)); refine wpAny_bind (wpAny_letGo (wpAny_pure ?_))
    cases hbt : bt (j + 1) (argBest bt j) with
    | true =>
      simp only [if_true]; refine wpAny_bind ?_
      refine wpAny_updateSeq hb' rfl (wpAny_bind (wpAny_letGo ?_)); rw [nm]
      refine wpAny_pure ⟨plainId_quiet F.plain_min_loop _, ih (j + 1) _ v _ (by omega) lt (W.frame _ _ _ st' fun b z o e => ?_) (hT _ _ ht' fun b o _ z2 e => ?_) (by simp only [argBest, hbt, if_true]; exact pv) (Heap.get?_update_self _ hb' rfl) fun v' h'' tk'' pv' kk => ?_⟩
      · exact (Heap.get?_update_other _ _ (fun z' : B = b => hB (by rw [z']; exact z))).trans e
      · exact (Heap.get?_update_other _ _ (Ne.symm z2)).trans e
      · exact hR v' h'' tk'' pv' fun b o z1 z2 e => kk b o z1 z2 ((Heap.get?_update_other _ _ (Ne.symm z2)).trans (kept b o z1 e))
    | false =>
      simp only [Bool.false_eq_true, if_false]; refine wpAny_bind (wpAny_letGo ?_); rw [nm]
      refine wpAny_pure ⟨plainId_quiet F.plain_min_loop _, ih (j + 1) _ best cc (by omega) lt st' ht' (by simp only [argBest, hbt, Bool.false_eq_true, if_false]; exact hp) hb' fun v' h'' tk'' pv' kk => ?_⟩
      exact hR v' h'' tk'' pv' fun b o z1 z2 e => kk b o z1 z2 (kept b o z1 e)
end
theorem min_walk {prog : Program} {w : World} {A : Around} {E : Value → Shared → Prop} {s : Shared} {x : Value} {Q : Value → Shared → Prop}
    (h : wpAny (model prog w) A.in1 (pyIter x) (fun it s₂ => ∃ (I : Addr) (fq wr : List Addr) (n : Nat) (P : Nat → Value → Prop) (Sx : Nat → Heap → Prop) (bt : Nat → Nat → Bool) (T : Heap → Prop), it = .ref I ∧ Walks prog w A.in1 I fq wr n P Sx ∧ Sx 0 s₂.heap ∧ (∀ b ∈ fq, b < s₂.heap.objs.size) ∧ 0 < n ∧ T s₂.heap ∧ (∀ (h h' : Heap) (B : Addr), s₂.heap.objs.size ≤ B → T h → (∀ b o, b ∉ wr → b ≠ B → h.get? b = some o → h'.get? b = some o) → T h') ∧
      (∀ i j x y s (Q : Value → Shared → Prop) (E : Value → Shared → Prop), T s.heap → P i x → P j y → Q (.bool (bt i j)) s → wpAny (model prog w) A.in1 (richCompare .Lt x y) Q E s) ∧
      ∀ v h' tk, P (argBest bt (n - 1)) v → (∀ b o, b ∉ wr → s₂.heap.get? b = some o → h'.get? b = some o) → Q v { s₂ with heap := h', toks := tk }) E s) :
    wpAny (model prog w) A (call (.builtin "min") [x]) Q E s := by
  have nm : (toString "min" ++ toString ".loop" : String) = "min.loop" := by decide
  refine call_function_tree F.kind_min F.plain_min F.entry_min (F.args_min1 _) ?_
  show wpAny _ A.in1 (Builtin.Builtins.bindParams "min" ["key", "default"] 0 ⟨[], []⟩ >>= _) _ _ s; refine wpAny_bind (wpAny_of_eq (show Builtin.Builtins.bindParams "min" ["key", "default"] 0 ⟨[], []⟩ = pure [none, none] from rfl) ?_)
  refine wpAny_bind (wpAny_pure ?_); refine wpAny_bind (wpAny_mono h (fun it s₂ h₂ => ?_) fun _ _ e => e)
  obtain ⟨I, fq, wr, n, P, Sx, bt, T, rfl, W, hst, hfp, hn, ht, hT, cmp, hQ⟩ := h₂
  refine wpAny_bind (wpAny_newObj_type ?_)
  have hSf : s₂.heap.objs.size ∉ fq := fun z => Nat.lt_irrefl _ (hfp _ z)
  have hSw : s₂.heap.objs.size ∉ wr := fun z => hSf (W.sub _ z)
  rw [nm]
  generalize hh : s₂.heap.push { cls := .type "list", data := .seq ([] : List Value).toArray } = hp
  have hb : hp.get? s₂.heap.objs.size = some { cls := .type "list", dict := none, data := .seq #[] 0, slots := #[] } := by rw [← hh]; exact Heap.get?_push_size _ rfl
  have old : ∀ b o, s₂.heap.get? b = some o → hp.get? b = some o := fun b o e => by rw [← hh]; exact Heap.get?_push_of_some _ e
  have st0 : Sx 0 hp := W.frame _ _ _ hst fun b _ o e => old b o e
  have ht0 : T hp := hT _ _ _ (Nat.le_refl _) ht fun b o _ _ e => old b o e
  refine wpAny_pure ⟨plainId_quiet F.plain_min_loop _, ?_⟩
  refine codeAny_builtin F.entry_min_loop ?_; rw [Around.under_plainId F.plain_min_loop _]
  show wpAny _ A.in1 (seqItems? (.ref s₂.heap.objs.size) >>= _) _ _ _; refine wpAny_bind (wpAny_seqItems hb rfl ?_)
  show wpAny _ A.in1 (tryCatch (pyNext (.ref I)) _ >>= _) _ _ _; refine wpAny_bind (wpAny_tryCatch (W.item 0 _ _ _ hn st0 fun v h' tk pv st' kept => ?_))
  have hb' := kept _ _ hSw hb
  show wpAny _ A.in1 (updateSeq s₂.heap.objs.size (fun _ => #[v, v]) >>= _) _ _ _; refine wpAny_bind ?_
  refine wpAny_updateSeq hb' rfl ?_; rw [nm]
  refine wpAny_pure ⟨plainId_quiet F.plain_min_loop _, min_go W bt T _ hSf (fun h h' => hT h h' _ (Nat.le_refl _)) cmp _ 0 _ v _ rfl hn (W.frame _ _ _ st' fun b z o e => ?_) (hT _ _ _ (Nat.le_refl _) (hT _ _ _ (Nat.le_refl _) ht0 fun b o z1 _ e => kept b o z1 e) fun b o _ z2 e => ?_) pv (Heap.get?_update_self _ hb' rfl) fun v' h'' tk'' pv' kk => ?_⟩
  · exact (Heap.get?_update_other _ _ (fun z' : s₂.heap.objs.size = b => hSf (by rw [z']; exact z))).trans e
  · exact (Heap.get?_update_other _ _ (Ne.symm z2)).trans e
  · refine hQ v' h'' tk'' pv' fun b o z1 e => ?_
    have nb : b ≠ s₂.heap.objs.size := Nat.ne_of_lt (Heap.lt_size e)
    exact kk b o z1 nb ((Heap.get?_update_other _ _ (Ne.symm nb)).trans (kept b o z1 (old b o e)))
/-- min of a list of tuples of ints, of a list of ints -/
theorem argBest_min {α : Type} (lt : α → α → Bool) (l : List α) (a : α) (f : Nat → α) (hf : ∀ i, i < l.length + 1 → f i = (a :: l).getD i a) :
    f (argBest (fun i j => lt (f i) (f j)) l.length) = l.foldl (fun m x => if lt x m = true then x else m) a := by
  have key : ∀ k, k ≤ l.length → f (argBest (fun i j => lt (f i) (f j)) k) = (l.take k).foldl (fun m x => if lt x m = true then x else m) a := by
    intro k
    induction k with
    | zero => intro _; rw [argBest, hf 0 (by omega)]; rfl
    | succ k ih =>
      intro hk
      have ih' := ih (by omega)
      rw [List.take_succ_eq_append_getElem (by omega), List.foldl_append, ← ih']
      have e : f (k + 1) = l[k] := by
        rw [hf (k + 1) (by omega), List.getD_eq_getElem?_getD]
        simp [show k < l.length by omega]
      show f (if lt (f (k + 1)) (f (argBest _ k)) = true then k + 1 else argBest _ k) = (if lt l[k] _ = true then l[k] else _)
      rw [← e]
      split <;> rfl
  rw [key l.length (Nat.le_refl _), List.take_length]
theorem call2_min (hc : X.calm = true) (hu : X.A.units + 64 < cLine) : CallR2 X (.builtin "min") cMin := by
  intro pins s σ H G xs ds us Q I ab rx rd q
  unfold cMin at q
  split at q
  · rename_i x
    obtain ⟨v, rfl, r⟩ := rd.one
    obtain ⟨u, rfl, ru⟩ := rx.one
    -- the walk over the items of a list or tuple
    have main : ∀ {α : Type} (zs : List α) (a : α) (enc : α → D) (lt : α → α → Bool) (T : Heap → Prop), itemsOf x G = some ((a :: zs).map enc) → T s.heap → (∀ (h h' : Heap) (B : Addr), s.heap.objs.size ≤ B → T h → (∀ b o, b < s.heap.objs.size → b ≠ B → h.get? b = some o → h'.get? b = some o) → T h') →
        (∀ y z vy vz uy uz (s' : Shared) (Q' : Value → Shared → Prop) (E' : Value → Shared → Prop), T s'.heap → RepD X.K H vy (enc y) → RelV vy uy → RepD X.K H vz (enc z) → RelV vz uz → Q' (.bool (lt y z)) s' → wpAny (model X.prog X.w) X.A.in1 (richCompare .Lt uy uz) Q' E' s') →
        Q (enc (zs.foldl (fun m x => if lt x m = true then x else m) a)) G → wpAny (model X.prog X.w) X.A (call (.builtin "min") [u]) (EP2 X pins σ H G Q) X.xe s := by
      intro α zs a enc lt T hi ht hT cmp hq
      obtain ⟨l, vs, its, rfl, rv, rs, hl, hz⟩ := list_items I ab ru r hi
      have hlen : its.length = zs.length + 1 := by rw [← rv.length, rs.length, List.length_map, List.length_cons]
      have hne : ∀ {o : Obj}, s.heap.get? l = some o → l ≠ s.heap.objs.size := fun e => Nat.ne_of_lt (Heap.lt_size e)
      have at_ : ∀ i uu, its.toArray[i]? = some uu → ∃ vv, RelV vv uu ∧ RepD X.K H vv (enc ((a :: zs).getD i a)) := fun i uu e => by
        have e' : its[i]? = some uu := by simpa using e
        have hi' : i < its.length := (List.getElem?_eq_some_iff.mp e').1
        have hd : ((a :: zs).map enc)[i]? = some (enc ((a :: zs).getD i a)) := by
          rw [List.getElem?_map, List.getD_eq_getElem?_getD]
          cases h9 : (a :: zs)[i]? with
          | none => rw [List.getElem?_eq_none_iff] at h9; simp at h9; omega
          | some z => rfl
        obtain ⟨vv, h1, h2⟩ := rs.get hd
        obtain ⟨uu', h3, h4⟩ := rv.get h1
        rw [e'] at h3
        cases h3
        exact ⟨vv, h4, h2⟩
      have cmp' : ∀ i j p9 q9 s' (Q' : Value → Shared → Prop) (E' : Value → Shared → Prop), T s'.heap → its.toArray[i]? = some p9 → its.toArray[j]? = some q9 → Q' (.bool (lt ((a :: zs).getD i a) ((a :: zs).getD j a))) s' → wpAny (model X.prog X.w) X.A.in1 (richCompare .Lt p9 q9) Q' E' s' := fun i j p9 q9 s' Q' E' t' h1 h2 h3 => by
        obtain ⟨v1, r1, d1⟩ := at_ i p9 h1
        obtain ⟨v2, r2, d2⟩ := at_ j q9 h2
        exact cmp _ _ v1 v2 p9 q9 s' Q' E' t' d1 r1 d2 r2 h3
      have fin : ∀ vv h' tk, its.toArray[argBest (fun i j => lt ((a :: zs).getD i a) ((a :: zs).getD j a)) (its.toArray.size - 1)]? = some vv → (∀ b o, b ∉ [s.heap.objs.size] → s.heap.get? b = some o → h'.get? b = some o) → EP2 X pins σ H G Q vv { s with heap := h', toks := tk } := fun vv h' tk e hk => by
        obtain ⟨v1, r1, d1⟩ := at_ _ vv e
        have es : its.toArray.size - 1 = zs.length := by rw [List.size_toArray]; omega
        rw [es, argBest_min lt zs a (fun i => (a :: zs).getD i a) (fun i _ => rfl)] at d1
        exact ⟨v1, H, _, G, I.kept fun b o e => hk b o (by simpa using Nat.ne_of_lt (Heap.lt_size e)) e, .refl ab, r1, d1, hq⟩
      have hpos : 0 < its.toArray.size := by rw [List.size_toArray]; omega
      have hTp : ∀ (oo : Obj), T (s.heap.push oo) := fun oo => hT _ _ (s.heap.objs.size + 1) (Nat.le_succ _) ht fun b o hb _ e => Heap.get?_push_of_some _ e
      have hT2 : ∀ (oo : Obj) (h h' : Heap) (B : Addr), (s.heap.push oo).objs.size ≤ B → T h → (∀ b o, b ∉ [s.heap.objs.size] → b ≠ B → h.get? b = some o → h'.get? b = some o) → T h' := fun oo h h' B hB t kk => hT h h' B (by rw [Heap.size_push] at hB; exact Nat.le_of_succ_le hB) t fun b o hb hn e => kk b o (by simpa using Nat.ne_of_lt hb) hn e
      rcases hl with hl | hl
      · refine min_walk (wpAny_pyIter_list hl ?_)
        obtain ⟨o, ho, hcl, n, hd⟩ := id hl
        exact ⟨s.heap.objs.size, _, _, _, _, _, _, T, rfl, Walks.list (A := X.A.in1) (show X.A.in1.handled = none from I.ok.hd hc) _ l (hne ho) its.toArray, ⟨⟨_, Heap.get?_push_size _ rfl, rfl, rfl⟩, ⟨o, Heap.get?_push_of_some _ ho, hcl, n, hd⟩⟩,
          fun b hb => by rcases (by simpa using hb : b = s.heap.objs.size ∨ b = l) with rfl | rfl
                         · rw [Heap.size_push]; exact Nat.lt_succ_self _
                         · rw [Heap.size_push]; exact Nat.lt_succ_of_lt (Heap.lt_size ho), hpos, hTp _, hT2 _, cmp', fun vv h' tk e hk => fin vv h' tk e fun b o hb e => hk b o hb (Heap.get?_push_of_some _ e)⟩
      · refine min_walk (wpAny_pyIter_tuple hl ?_)
        obtain ⟨o, ho, hcl, n, hd⟩ := id hl
        exact ⟨s.heap.objs.size, _, _, _, _, _, _, T, rfl, Walks.tuple (A := X.A.in1) (show X.A.in1.handled = none from I.ok.hd hc) _ l (hne ho) its.toArray, ⟨⟨_, Heap.get?_push_size _ rfl, rfl, rfl⟩, ⟨o, Heap.get?_push_of_some _ ho, hcl, n, hd⟩⟩,
          fun b hb => by rcases (by simpa using hb : b = s.heap.objs.size ∨ b = l) with rfl | rfl
                         · rw [Heap.size_push]; exact Nat.lt_succ_self _
                         · rw [Heap.size_push]; exact Nat.lt_succ_of_lt (Heap.lt_size ho), hpos, hTp _, hT2 _, cmp', fun vv h' tk e hk => fin vv h' tk e fun b o hb e => hk b o hb (Heap.get?_push_of_some _ e)⟩
    rcases q with ⟨ns, mm, hi, hm, q⟩ | ⟨nss, mm, hi, hm, q⟩
    · cases ns with
      | nil => cases hm
      | cons a zs =>
        cases hm
        have e : (fun m x : Int => if x < m then x else m) = fun m x => if decide (x < m) = true then x else m := by funext m x; simp
        rw [e] at q
        refine main zs a D.int (fun x y => decide (x < y)) (fun _ => True) hi trivial (fun _ _ _ _ _ _ => trivial) (fun y z vy vz uy uz s' Q' E' _ d1 r1 d2 r2 hq => ?_) q
        cases d1
        cases d2
        obtain ⟨t1, rfl⟩ := r1
        obtain ⟨t2, rfl⟩ := r2
        exact HT.rcLt_int X.A.in1 s' y t1 z t2 X.prog X.w E' Q' hq
    · cases nss with
      | nil => cases hm
      | cons a zs =>
        cases hm
        have el : ∀ xs ys : List Int, HT.lexLt xs ys = K2.lexLt xs ys := by
          intro xs
          induction xs with
          | nil => intro ys; cases ys <;> rfl
          | cons x xs ih => intro ys; cases ys with
            | nil => rfl
            | cons y ys => unfold HT.lexLt K2.lexLt; rw [ih]
        refine main zs a tI K2.lexLt (fun h => ∀ b o, b < s.heap.objs.size → s.heap.get? b = some o → h.get? b = some o) hi (fun b o _ e => e) (fun h h' B hB t kk b o hb e => kk b o hb (Nat.ne_of_lt (Nat.lt_of_lt_of_le hb hB)) (t b o hb e)) (fun y z vy vz uy uz s' Q' E' t' d1 r1 d2 r2 hq => ?_) q
        cases d1 with
        | tup h1 rs1 =>
          cases d2 with
          | tup h2 rs2 =>
            cases r1
            cases r2
            have z1 := rs1.ints
            have z2 := rs2.ints
            subst z1 z2
            obtain ⟨its1, rv1, ⟨o1, ho1, hc1, n1, hd1⟩, _⟩ := I.tuple (.of h1)
            obtain ⟨its2, rv2, ⟨o2, ho2, hc2, n2, hd2⟩, _⟩ := I.tuple (.of h2)
            have p1 : IsTup s'.heap _ its1.toArray := ⟨o1, t' _ _ (Heap.lt_size ho1) ho1, hc1, n1, hd1⟩
            have p2 : IsTup s'.heap _ its2.toArray := ⟨o2, t' _ _ (Heap.lt_size ho2) ho2, hc2, n2, hd2⟩
            rw [← el] at hq
            have i1 : IntsAre its1.toArray.toList y := intsAre_of rv1
            have i2 : IntsAre its2.toArray.toList z := intsAre_of rv2
            exact (HT.lt_tupInts p1 p2 i1 i2 (show X.A.units + 1 < cLine by omega) hq : wpAny (model X.prog X.w) X.A.in1 (compareOp .Lt _ _) Q' E' s')
  · exact q.elim

/-! ### a comprehension, its names looked through by reckoning -/
def relS (scope sc : Scope) : List (Str × NameKind) := scope.names.map fun (n, k) => if (k == .free && sc.kind == .function && sc.names.lookup n == some .cell) then (n, .cell) else (n, k)
def compChk (N : List Str) (scope : Scope) (m : Nat) (fr : List Nat) (sc : Scope) (XN : List Str) : Bool :=
  scope.names.all (fun y => decide (y.2 ≠ .cell)) && decide (scope.kind = .function) && scope.names.all (fun y => !decide (y.2 = .local) || decide (scope.names.lookup y.1 = some .local)) &&
  scope.names.all (fun y => !decide (y.2 = .free) || decide (sc.names.lookup y.1 = some .cell)) && decide (N.length = m + fr.length) &&
  (List.range fr.length).all (fun j => match fr[j]?, N[m + j]? with
    | some i, some x => decide (XN[i]? = some x) && decide (sc.names.lookup x = some .cell) && decide ((relS scope sc).lookup x = some .cell)
    | _, _ => false)
theorem compOk_of {sc : Scope} {XN : List Str} (hsc : X.env.scope = sc) (hXN : X.N = XN) (hb : compChk N scope m fr sc XN = true) : CompOk X N scope m fr := by
  subst hsc hXN
  unfold compChk at hb
  simp only [Bool.and_eq_true] at hb
  obtain ⟨⟨⟨⟨⟨h1, h2⟩, h3⟩, h4⟩, h5⟩, h6⟩ := hb
  refine ⟨fun y hy => of_decide_eq_true (List.all_eq_true.mp h1 y hy), of_decide_eq_true h2, fun y hy hl => ?_, fun y hy hl => ?_, of_decide_eq_true h5, fun j i x e1 e2 => ?_⟩
  · have := List.all_eq_true.mp h3 y hy
    simp only [hl, decide_true, Bool.not_true, Bool.false_or] at this
    exact of_decide_eq_true this
  · have := List.all_eq_true.mp h4 y hy
    simp only [hl, decide_true, Bool.not_true, Bool.false_or] at this
    exact of_decide_eq_true this
  · have hj : j < fr.length := (List.getElem?_eq_some_iff.mp e1).1
    have := List.all_eq_true.mp h6 j (List.mem_range.mpr hj)
    rw [e1, e2] at this
    simp only [Bool.and_eq_true] at this
    exact ⟨of_decide_eq_true this.1.1, of_decide_eq_true this.1.2, of_decide_eq_true this.2⟩
theorem pe2_comp (N : List Str) {sc : Scope} {XN : List Str} (hi : PI2 X tg iter wi) (hg : ∀ C s H fp, PG2 (compCx X N scope C s H fp) tg g) (hif : ∀ C s H fp, PIf (compCx X N scope C s H fp) ifs c) (he : ∀ C s H fp, PE2 (compCx X N scope C s H fp) elt te)
    (hsc : X.env.scope = sc := by rfl) (hXN : X.N = XN := by rfl) (hb : compChk N scope m fr sc XN = true := by decide +kernel) (hc : X.calm = true := by rfl) (hs : ∀ x, foldedSetIterable iter X.env x = pure x := by intro _; rfl) : PE2 X (.ListComp elt [⟨tg, iter, ifs, 0⟩] scope pos) (dComp m fr wi g c te) :=
  pe2_compG hc (compOk_of hsc hXN hb) hi hg hif he hs
theorem ps2_setC (N : List Str) {sc : Scope} {XN : List Str} {i : Nat} {y : Str} {py spos : Pos} (hN : X.N.Nodup) (hyi : X.N[i]? = some y) (hy : X.env.scope.names.lookup y = some .local) (hi : PI2 X tg iter wi) (hg : ∀ C s H fp, PG2 (compCx X N scope C s H fp) tg g)
    (hif : ∀ C s H fp, PIf (compCx X N scope C s H fp) ifs c) (he : ∀ C s H fp, PE2 (compCx X N scope C s H fp) elt te) (hsc : X.env.scope = sc := by rfl) (hXN : X.N = XN := by rfl) (hb : compChk N scope m fr sc XN = true := by decide +kernel) (hc : X.calm = true := by rfl)
    (hsw : swapsWith (.ListComp elt [⟨tg, iter, ifs, 0⟩] scope pos) (some (.Name y py)) spos.line X.env = pure true := by rfl) (hs : ∀ x, foldedSetIterable iter X.env x = pure x := by intro _; rfl) :
    PS2 X (.Assign [.Name y py] (.ListComp elt [⟨tg, iter, ifs, 0⟩] scope pos) spos) (dAsg (dComp m fr wi g c te) (gName i)) :=
  ps2_setComp hN hyi hy hc (compOk_of hsc hXN hb) hi hg hif he hsw hs

/-! ### the law -/
theorem law_start {K : PySem.W.Frag} {H : Hp} {a : Addr} {ns : List Int} (hO : Only H) (hS : SqL K H a (ns.map V.int)) (hl : ns.length ≤ 63) : spOf K spLaw [.ref a] H (fun v _ => v = .bl true) fun _ _ _ => False := by
  have hF : SqF K H a (ns.map V.int) := by
    rcases hS with (h | ⟨o, h⟩) | h
    · rcases hO a with z | ⟨o, xs, z⟩
      · rw [z] at h; cases h
      · rw [z] at h; cases h
    · exact .inl ⟨o, h⟩
    · exact .inr h
  refine ⟨[.rol (ns.map D.int)], fun _ => none, fun d _ => d = .bl true, .cons (.rol hF (RepDs.of_ints ns)) .nil, fun a g e => (by cases e), ⟨ns, rfl, hl, fun _ => rfl, fun _ => rfl⟩, fun d G' v H' e mv r => ?_⟩
  subst e
  cases r
  rfl
theorem law_walk {l : PySem.W.OpenLaw} {q : Program} {loose : List Str} {XP : (Str → Option Value) → Heap → Prop} {YP : World → Heap → Prop} {d : DefRec} {K : Params → PySem.W.Frag} {k : Nat} {x : Str} (hn : l.most = some 63) (hdf : d.params.defaults = []) (hr : Room k callerA)
    (hY : ∀ (w : World) (h : Heap), YP w h → (K w.params).In h)
    (F : ∀ (w : World) (mg : Str → Option Value) (fa : Addr) (h : Heap), (K w.params).In h → h.Ns mainGlobals mg → mg d.name = some (.ref fa) →
      ∃ fd : FuncData, (∀ (s : Shared) (u : Value), BindsTo s fd ⟨[u], []⟩ [(x, u)]) ∧ ∀ base : Heap, (K w.params).In base → base.Ns mainGlobals mg → FnOk l.prog w (K w.params) mg base CX0 k fa fd [x] (spOf (K w.params) spLaw)) :
    PySem.W.WalkO q loose XP YP l.row.toRowW d [] (fun f vs => PySem.call f vs) :=
  L2.walk_of (n := 63) (k := k) (x := x) (CX := fun _ => CX0) (sp := fun w => spOf (K w.params) spLaw) hn (by decide) hdf hr hY F (fun _ _ _ _ hl hO hS => law_start hO hS hl) fun _ _ _ _ _ z => z
end
end K2

end
section
namespace K2
open PySem PySem.Spec PyProof.Rows L2
set_option autoImplicit false
/-! ### what is no longer changed becomes known -/
def frzH (h : Heap) (S : Addr → Bool) (H : Hp) : Hp := fun a => match H a with
  | some (.lst vs) => if S a = true then (match h.get? a with
    | some o => some (.frz o (.lst vs))
    | none => some (.lst vs)) else some (.lst vs)
  | u => u
section
variable {h : Heap} {S : Addr → Bool} {H : Hp} {a : Addr}
theorem frzH_other (n : ∀ vs, H a ≠ some (.lst vs)) : frzH h S H a = H a := by
  unfold frzH
  split
  · rename_i vs e; exact absurd e (n vs)
  · rfl
theorem frzH_out (hs : S a = false) : frzH h S H a = H a := by
  unfold frzH
  split
  · rename_i vs e; rw [hs, if_neg (by simp), e]
  · rfl
theorem frzH_in {vs : List V} {o : Obj} (hs : S a = true) (e : H a = some (.lst vs)) (ho : h.get? a = some o) : frzH h S H a = some (.frz o (.lst vs)) := by
  unfold frzH
  simp only [e, hs, if_true, ho]
theorem frzH_none (e : H a = none) : frzH h S H a = none := by rw [frzH_other (by rw [e]; intro vs z; cases z)]; exact e
theorem frzH_kp : Kp H (frzH h S H) :=
  ⟨fun a xs e => by rw [frzH_other (by rw [e]; intro vs z; cases z)]; exact e, fun a o u e => by rw [frzH_other (by rw [e]; intro vs z; cases z)]; exact e⟩
end
section
variable {X : Cx} {pins : List (Addr × Obj)} {σ : L2.St} {H : Hp} {s : Shared} {G : Gp}
theorem Inv.freeze (I : Inv X pins σ H s) (S : Addr → Bool) : Inv X pins σ (frzH s.heap S H) s where
  ok := I.ok
  os := I.os
  bare := I.bare
  base := { keep := I.base.keep, slot := I.base.slot, there := I.base.there
            free := fun b o q n hx => frzH_none (I.base.free b o q n hx)
            tups := fun b xs q => by rw [frzH_other (by rw [I.base.tups b xs q]; intro vs z; cases z)]; exact I.base.tups b xs q
            frzs := fun b o u q => by rw [frzH_other (by rw [I.base.frzs b o u q]; intro vs z; cases z)]; exact I.base.frzs b o u q
            tbls := fun b ps q => by
              obtain ⟨more, e⟩ := I.base.tbls b ps q
              exact ⟨more, by rw [frzH_other (by rw [e]; intro vs z; cases z)]; exact e⟩ }
  loc := I.loc
  cell := I.cell
  free := frzH_none I.free
  freeC := fun x c e => frzH_none (I.freeC x c e)
  pin := fun p hp => let ⟨h1, h2, h3⟩ := I.pin p hp; ⟨h1, frzH_none h2, h3⟩
  hok := fun a o q => by
    have st : ∀ u, H a = some u → ObjOk X.prog X.w (frzH s.heap S H) s.heap a u := fun u e =>
      (I.hok a u e).stay (fun b v _ r => r) (fun b r => by rw [frzH_other (by rw [r]; intro vs z; cases z)]; exact r) (fun b xs r => by rw [frzH_other (by rw [r]; intro vs z; cases z)]; exact r)
    cases e : H a with
    | none => rw [frzH_none e] at q; cases q
    | some u =>
      by_cases hl : ∃ vs, u = .lst vs
      · obtain ⟨vs, rfl⟩ := hl
        by_cases hs : S a = true
        · obtain ⟨_, its, n, _, ho⟩ := I.hok a _ e
          rw [frzH_in hs e ho] at q
          cases q
          exact ⟨ho, st _ e⟩
        · rw [frzH_out (by simpa using hs), e] at q
          cases q
          exact st _ e
      · rw [frzH_other (by rw [e]; intro vs z; cases z; exact hl ⟨vs, rfl⟩), e] at q
        cases q
        exact st _ e
  len := I.len
/-- the seen things in R -/
def seenR (R : Nat → Bool) (G : Gp) : Addr → Bool := fun a => R a && (G a).isSome
theorem freeze_mv (I : Inv X pins σ H s) (ab : AbH X.K H G) (R : Nat → Bool) : Mv X.K H G (frzH s.heap (seenR R G) H) (delG R G) where
  keep := fun a o e n => by
    refine ⟨by rw [frzH_out (by simp [seenR, n])]; exact e, ?_⟩
    unfold delG; split
    · rfl
    · exact n
  stay := fun a n => by
    cases q : G a with
    | none => exact absurd q n
    | some g =>
      have t := (ab a g q).tracked
      cases e : H a with
      | none => exact absurd e t
      | some u =>
        unfold frzH
        rw [e]
        split
        · split
          · split <;> simp
          · simp
        · rename_i z _; simp
  ab := fun a g e => by
    unfold delG at e
    split at e
    · cases e
    · rename_i hr
      exact (ab a g e).mono frzH_kp (frzH_out (by simp [seenR, hr]))
mutual
theorem fz_rep (I : Inv X pins σ H s) (ab : AbH X.K H G) {R : Nat → Bool} : ∀ {d t : D} {v : V}, Fz G R d t → RepD X.K H v d → RepD X.K (frzH s.heap (seenR R G) H) v t
  | _, _, _, .same d, r => r.mono frzH_kp
  | _, _, _, .tup hs, .tup h rs => .tup (frzH_kp.tup _ _ h) (fzs_rep I ab hs rs)
  | _, _, _, .rol hs, .rol h rs => .rol (frzH_kp.sqF h) (fzs_rep I ab hs rs)
  | _, _, _, .ref (a := a) g hr hs, .ref _ => by
    obtain ⟨vs, hv, rs⟩ := ab a _ g
    obtain ⟨_, its, n, _, ho⟩ := I.hok a _ hv
    exact .rol (.inl ⟨_, frzH_in (by simp [seenR, hr, g]) hv ho⟩) (fzs_rep I ab hs rs)
theorem fzs_rep (I : Inv X pins σ H s) (ab : AbH X.K H G) {R : Nat → Bool} : ∀ {ds ts : List D} {vs : List V}, Fzs G R ds ts → RepDs X.K H vs ds → RepDs X.K (frzH s.heap (seenR R G) H) vs ts
  | _, _, _, .nil, .nil => .nil
  | _, _, _, .cons h hs, .cons r rs => .cons (fz_rep I ab h r) (fzs_rep I ab hs rs)
end
variable {e : Expr} {te : TE2} {st : Stmt} {t : TS2}
theorem pe2_fz (he : PE2 X e te) : PE2 X e (dFz te) := by
  intro E pins s σ H τ G Q hE I h
  refine thn (he E pins s σ H τ G _ hE I h) fun u s1 ⟨v, H1, d, G1, I1, m, r, rd, R, t, hf, q⟩ => ?_
  exact ⟨v, _, t, _, Inv.freeze I1 _, m.trans (freeze_mv I1 m.ab R), r, fz_rep I1 m.ab hf rd, q⟩
theorem ps2_fzv {i : Nat} (h1 : PS2 X st t) : PS2 X st (dFzV i t) := by
  intro E pins s σ H τ G D hE I h
  refine thn (h1 E pins s σ H τ G _ hE I h) fun f s1 z => ?_
  cases f with
  | next =>
    obtain ⟨σ', H', τ', G', I', m, q⟩ := z
    simp only at q
    split at q
    · rename_i d hd
      obtain ⟨R, t, hf, q⟩ := q
      obtain ⟨v, hv, rv⟩ := I'.st.at' i d hd
      have a1 := (I'.st.mono (H' := frzH s1.heap (seenR R G') H') frzH_kp).set i (fz_rep I'.inv I'.ab hf rv)
      have es : σ'.set i (some v) = σ' := by
        have hi : i < σ'.length := (List.getElem?_eq_some_iff.mp hv).1
        have e2 := (List.getElem?_eq_some_iff.mp hv).2
        rw [← e2]; exact List.set_getElem_self hi
      rw [es] at a1
      have m2 := freeze_mv I'.inv I'.ab R
      exact ⟨σ', _, _, _, ⟨Inv.freeze I'.inv _, a1, m2.ab⟩, m.trans m2, q⟩
    · exact q.elim
  | ret v => exact z
  | brk => exact z
  | cont => exact z
end
end K2

end
section
namespace K2
open PySem PySem.Spec PyProof.Rows L2
set_option autoImplicit false
theorem bt_len : bootBuiltins "len" = some (.builtin "len") := by decide +kernel
theorem bt_min : bootBuiltins "min" = some (.builtin "min") := by decide +kernel
theorem bt_max : bootBuiltins "max" = some (.builtin "max") := by decide +kernel
theorem bt_sum : bootBuiltins "sum" = some (.builtin "sum") := by decide +kernel
theorem bt_all : bootBuiltins "all" = some (.builtin "all") := by decide +kernel
theorem bt_any : bootBuiltins "any" = some (.builtin "any") := by decide +kernel
theorem bt_sorted : bootBuiltins "sorted" = some (.builtin "sorted") := by decide +kernel
theorem bt_list : bootBuiltins "list" = some (.type "list") := by decide +kernel
theorem bt_tuple : bootBuiltins "tuple" = some (.type "tuple") := by decide +kernel
theorem bt_dict : bootBuiltins "dict" = some (.type "dict") := by decide +kernel
theorem bt_int : bootBuiltins "int" = some (.type "int") := by decide +kernel
theorem bt_bool : bootBuiltins "bool" = some (.type "bool") := by decide +kernel
theorem bt_str : bootBuiltins "str" = some (.type "str") := by decide +kernel
section
variable {X : Cx} {a b c e o : Expr} {es : List Expr} {ta tb tc te to : TE2} {t : TA2} {pos p p2 apos cpos : Pos} {x name : Str} {id T : String} {k : Nat} {f : Addr} {fd : FuncData} {ps : List Str} {sp : Sp2}
theorem pe2_callS (F : FnOk X.prog X.w X.K X.mg X.base CX0 k f fd ps (spOf X.K sp)) (hr : Room k X.A) (hg : Gl X x) (hm : X.mg x = some (.ref f)) (hk : PySem.W.keepIn X.K (.ref f) = true) (hb : Binds X.K fd ps [])
    (ha : PA2 X (e :: es) t) (hdb : (x == ("__debug__" : Str)) = false := by decide) (he : starEach (e :: es) X.env = (false, eval e X.env) :: starEach es X.env := by rfl) (hpl : (backTo pos (starEach es X.env)).any (·.1) = false := by rfl) :
    PE2 X (.Call (.Name x p) (e :: es) [] pos) (dCall sp t) := pe2_call F hr hg hm hk hb ha hdb he hpl
end
end K2

end
section
set_option autoImplicit false
set_option linter.all false
set_option maxRecDepth 100000
set_option maxHeartbeats 4000000
namespace K2
open PySem (Str)
namespace K01
def rd_law_cell : TS2 :=
  (dSeq (dIfS (dTru (dBin rLt (dVar 1) (dCB cLen (dCons (dVar 0) dNil)))) (dRet (dFz (dBin rIx (dVar 0) (dVar 1)))) dNext)
  (dRet (dFz (dC (.int 0)))))
def cellI (ns : List Int) (k : Int) : Int := ns.getD k.toNat 0
def sp_law_cell : Sp2 := fun ds G Q _ => ∃ (ns : List Int) (k : Int), ds = [.rol (ns.map D.int), .int k] ∧ 0 ≤ k ∧ Q (.int (cellI ns k)) G
theorem OK_law_cell (ds : List D) (G : Gp) (Q : DK) (h : sp_law_cell ds G Q fun _ _ => False) : rd_law_cell (fun _ _ => False) (ends Q) (start2 2 ds) G := by
  obtain ⟨ns, k, rfl, h0, q⟩ := h
  unfold rd_law_cell
  simp only [dFz, start2, ends, dSeq, dIfS, dTru_at, dBin, dUn, dVar, dCB, dMt, dCons, dNil, dRet, dRetN, dExpr, dAsg, gName, dC, dNext, dTup, dLst, dDic, dIsi_at, dAnd, dOr, dNot, dAndV_at, dOrV_at, dNotV_at, dIf, dSl, dPart_at, dNoPart, dFor, iSeq_at, iRng1_at, dCall, dComp, rAdd_int, rAdd_tup, rAdd_ref, rAdd_rol, rSub_int, rMul_int, rMod_int, rFdiv_int, rNeg_int, rLt_int, rLe_int, rGt_int, rGe_int, rIx_ref, rIx_tupM, rIx_rolM, rSl_tup, rSl_rol, rSl_ref, cLen_rol, cLen_tup, cLen_ref, cList_ref, mAppend_ref, mExtend_ref, mInsert_ref, mSetdefault_ref, tyL_ref, tyC_ref, tyL_rol, tyS_str, true_and, and_true, iAt_rol, iAt_tup, iAt_ref, partAt_int, truAt_bl, truAt_ref, rngAt_int, isAt_int, isAt_bl, isAt_tup, isAt_ref, List.map_cons, List.map_nil, List.cons_append, List.nil_append, List.getElem?_cons_zero, List.getElem?_cons_succ, List.set_cons_zero, List.set_cons_succ, List.length_cons, List.length_nil, List.replicate, if_true, if_false, Bool.not_true, Bool.not_false, Bool.false_eq_true]
  split
  · rename_i h
    have h1 : k < (ns.map D.int).length := by simpa using h
    rw [atI_nat _ h0 h1]
    simp only [List.getElem_map]
    rw [List.length_map] at h1
    have e : cellI ns k = ns[k.toNat] := by unfold cellI; rw [List.getD_eq_getElem?_getD, List.getElem?_eq_getElem (by omega)]; rfl
    rw [← e]; exact fz_id q
  · rename_i h
    have h1 : ¬ k < (ns.map D.int).length := by simpa using h
    rw [List.length_map] at h1
    have e : cellI ns k = 0 := by unfold cellI; rw [List.getD_eq_getElem?_getD, List.getElem?_eq_none (by omega)]; rfl
    rw [← e]; exact fz_id q
def rd_law_whole : TS2 :=
  (dRet (dFz (dAndV (dIsi "int" (dVar 0)) (dNotV (dIsi "bool" (dVar 0))))))
def sp_law_whole : Sp2 := fun ds G Q _ => ∃ i : Int, ds = [.int i] ∧ Q (.bl true) G
theorem OK_law_whole (ds : List D) (G : Gp) (Q : DK) (h : sp_law_whole ds G Q fun _ _ => False) : rd_law_whole (fun _ _ => False) (ends Q) (start2 1 ds) G := by
  obtain ⟨i, rfl, q⟩ := h
  unfold rd_law_whole
  simp only [dFz, start2, ends, dSeq, dIfS, dTru_at, dBin, dUn, dVar, dCB, dMt, dCons, dNil, dRet, dRetN, dExpr, dAsg, gName, dC, dNext, dTup, dLst, dDic, dIsi_at, dAnd, dOr, dNot, dAndV_at, dOrV_at, dNotV_at, dIf, dSl, dPart_at, dNoPart, dFor, iSeq_at, iRng1_at, dCall, dComp, rAdd_int, rAdd_tup, rAdd_ref, rAdd_rol, rSub_int, rMul_int, rMod_int, rFdiv_int, rNeg_int, rLt_int, rLe_int, rGt_int, rGe_int, rIx_ref, rIx_tupM, rIx_rolM, rSl_tup, rSl_rol, rSl_ref, cLen_rol, cLen_tup, cLen_ref, cList_ref, mAppend_ref, mExtend_ref, mInsert_ref, mSetdefault_ref, tyL_ref, tyC_ref, tyL_rol, tyS_str, true_and, and_true, iAt_rol, iAt_tup, iAt_ref, partAt_int, truAt_bl, truAt_ref, rngAt_int, isAt_int, isAt_bl, isAt_tup, isAt_ref, List.map_cons, List.map_nil, List.cons_append, List.nil_append, List.getElem?_cons_zero, List.getElem?_cons_succ, List.set_cons_zero, List.set_cons_succ, List.length_cons, List.length_nil, List.replicate, if_true, if_false, Bool.not_true, Bool.not_false, Bool.false_eq_true]
  simpa using fz_id q

def rd_law_rows_of_passings : TS2 :=
  (dSeq (dIfS (dNot (dTru (dIsi "list" (dVar 0)))) (dRet (dFz (dC (.bl false)))) dNext)
  (dSeq (dFor (iSeq (dVar 0)) (gName 1) (dSeq (dIfS (dNot (dTru (dIsi "list" (dVar 1)))) (dRet (dFz (dC (.bl false)))) dNext)
  (dFor (iSeq (dVar 1)) (gName 2) (dSeq (dIfS (dOr (dNot (dTru (dIsi "tuple" (dVar 2)))) (dTru (dBin (rEq true) (dCB cLen (dCons (dVar 2) dNil)) (dC (.int 3))))) (dRet (dFz (dC (.bl false)))) dNext)
  (dIfS (dNot (dTru (dCB cAll (dCons (dComp 1 [] (iSeq (dVar 2)) (gName 0) none (dCall sp_law_whole (dCons (dVar 0) dNil))) dNil)))) (dRet (dFz (dC (.bl false)))) dNext)))))
  (dRet (dFz (dC (.bl true))))))
def sp_law_rows_of_passings : Sp2 := fun ds G Q _ => ∃ (d : D) (rows : List D), ds = [d] ∧ IsL G d rows ∧ (∀ r ∈ rows, ∃ nss : List (List Int), IsL G r (nss.map tI) ∧ ∀ t ∈ nss, t.length = 3) ∧ Q (.bl true) G
theorem OK_law_rows_of_passings (ds : List D) (G : Gp) (Q : DK) (h : sp_law_rows_of_passings ds G Q fun _ _ => False) : rd_law_rows_of_passings (fun _ _ => False) (ends Q) (start2 3 ds) G := by
  obtain ⟨d, rows, rfl, hd, hr, q⟩ := h
  unfold rd_law_rows_of_passings
  simp only [dFz, start2, ends, dSeq, dIfS, dTru_at, dBin, dUn, dVar, dCB, dMt, dCons, dNil, dRet, dRetN, dExpr, dAsg, gName, dC, dNext, dTup, dLst, dDic, dIsi_at, dAnd, dOr, dNot, dAndV_at, dOrV_at, dNotV_at, dIf, dSl, dPart_at, dNoPart, dFor, iSeq_at, iRng1_at, dCall, dComp, rAdd_int, rAdd_tup, rAdd_ref, rAdd_rol, rSub_int, rMul_int, rMod_int, rFdiv_int, rNeg_int, rLt_int, rLe_int, rGt_int, rGe_int, rIx_ref, rIx_tupM, rIx_rolM, rSl_tup, rSl_rol, rSl_ref, cLen_rol, cLen_tup, cLen_ref, cList_ref, mAppend_ref, mExtend_ref, mInsert_ref, mSetdefault_ref, tyL_ref, tyC_ref, tyL_rol, tyS_str, true_and, and_true, iAt_rol, iAt_tup, iAt_ref, partAt_int, truAt_bl, truAt_ref, rngAt_int, isAt_int, isAt_bl, isAt_tup, isAt_ref, List.map_cons, List.map_nil, List.cons_append, List.nil_append, List.getElem?_cons_zero, List.getElem?_cons_succ, List.set_cons_zero, List.set_cons_succ, List.length_cons, List.length_nil, List.replicate, if_true, if_false, Bool.not_true, Bool.not_false, Bool.false_eq_true]
  refine isAt_of hd ?_
  simp only [dFz, start2, ends, dSeq, dIfS, dTru_at, dBin, dUn, dVar, dCB, dMt, dCons, dNil, dRet, dRetN, dExpr, dAsg, gName, dC, dNext, dTup, dLst, dDic, dIsi_at, dAnd, dOr, dNot, dAndV_at, dOrV_at, dNotV_at, dIf, dSl, dPart_at, dNoPart, dFor, iSeq_at, iRng1_at, dCall, dComp, rAdd_int, rAdd_tup, rAdd_ref, rAdd_rol, rSub_int, rMul_int, rMod_int, rFdiv_int, rNeg_int, rLt_int, rLe_int, rGt_int, rGe_int, rIx_ref, rIx_tupM, rIx_rolM, rSl_tup, rSl_rol, rSl_ref, cLen_rol, cLen_tup, cLen_ref, cList_ref, mAppend_ref, mExtend_ref, mInsert_ref, mSetdefault_ref, tyL_ref, tyC_ref, tyL_rol, tyS_str, true_and, and_true, iAt_rol, iAt_tup, iAt_ref, partAt_int, truAt_bl, truAt_ref, rngAt_int, isAt_int, isAt_bl, isAt_tup, isAt_ref, List.map_cons, List.map_nil, List.cons_append, List.nil_append, List.getElem?_cons_zero, List.getElem?_cons_succ, List.set_cons_zero, List.set_cons_succ, List.length_cons, List.length_nil, List.replicate, if_true, if_false, Bool.not_true, Bool.not_false, Bool.false_eq_true, beq_self_eq_true]
  refine iAt_of hd fun ok hok => ?_
  refine for_by (fun pre τ G' => GLe G G' ∧ ∃ a b c, τ = [a, b, c]) ⟨.refl G, _, _, _, rfl⟩ (fun pre τ G' h => hok G' h.1) ?_ ?_
  · rintro pre r post τ G1 N e ⟨l1, a, b, c, rfl⟩ hN
    obtain ⟨nss, hL, h3⟩ := hr r (by rw [e]; simp)
    simp only [dFz, start2, ends, dSeq, dIfS, dTru_at, dBin, dUn, dVar, dCB, dMt, dCons, dNil, dRet, dRetN, dExpr, dAsg, gName, dC, dNext, dTup, dLst, dDic, dIsi_at, dAnd, dOr, dNot, dAndV_at, dOrV_at, dNotV_at, dIf, dSl, dPart_at, dNoPart, dFor, iSeq_at, iRng1_at, dCall, dComp, rAdd_int, rAdd_tup, rAdd_ref, rAdd_rol, rSub_int, rMul_int, rMod_int, rFdiv_int, rNeg_int, rLt_int, rLe_int, rGt_int, rGe_int, rIx_ref, rIx_tupM, rIx_rolM, rSl_tup, rSl_rol, rSl_ref, cLen_rol, cLen_tup, cLen_ref, cList_ref, mAppend_ref, mExtend_ref, mInsert_ref, mSetdefault_ref, tyL_ref, tyC_ref, tyL_rol, tyS_str, true_and, and_true, iAt_rol, iAt_tup, iAt_ref, partAt_int, truAt_bl, truAt_ref, rngAt_int, isAt_int, isAt_bl, isAt_tup, isAt_ref, List.map_cons, List.map_nil, List.cons_append, List.nil_append, List.getElem?_cons_zero, List.getElem?_cons_succ, List.set_cons_zero, List.set_cons_succ, List.length_cons, List.length_nil, List.replicate, if_true, if_false, Bool.not_true, Bool.not_false, Bool.false_eq_true]
    refine isAt_of (hL.mono l1) ?_
    simp only [dFz, start2, ends, dSeq, dIfS, dTru_at, dBin, dUn, dVar, dCB, dMt, dCons, dNil, dRet, dRetN, dExpr, dAsg, gName, dC, dNext, dTup, dLst, dDic, dIsi_at, dAnd, dOr, dNot, dAndV_at, dOrV_at, dNotV_at, dIf, dSl, dPart_at, dNoPart, dFor, iSeq_at, iRng1_at, dCall, dComp, rAdd_int, rAdd_tup, rAdd_ref, rAdd_rol, rSub_int, rMul_int, rMod_int, rFdiv_int, rNeg_int, rLt_int, rLe_int, rGt_int, rGe_int, rIx_ref, rIx_tupM, rIx_rolM, rSl_tup, rSl_rol, rSl_ref, cLen_rol, cLen_tup, cLen_ref, cList_ref, mAppend_ref, mExtend_ref, mInsert_ref, mSetdefault_ref, tyL_ref, tyC_ref, tyL_rol, tyS_str, true_and, and_true, iAt_rol, iAt_tup, iAt_ref, partAt_int, truAt_bl, truAt_ref, rngAt_int, isAt_int, isAt_bl, isAt_tup, isAt_ref, List.map_cons, List.map_nil, List.cons_append, List.nil_append, List.getElem?_cons_zero, List.getElem?_cons_succ, List.set_cons_zero, List.set_cons_succ, List.length_cons, List.length_nil, List.replicate, if_true, if_false, Bool.not_true, Bool.not_false, Bool.false_eq_true, beq_self_eq_true]
    refine iAt_of (hL.mono l1) fun ok2 hok2 => ?_
    refine for_by (fun pre τ G' => GLe G1 G' ∧ ∃ a b c, τ = [a, b, c]) ⟨.refl G1, _, _, _, rfl⟩ (fun pre τ G' h => hok2 G' h.1) ?_ ?_
    · rintro pre2 t post2 τ G2 N2 e2 ⟨l2, a, b, c, rfl⟩ hN2
      obtain ⟨ns, hns, rfl⟩ : ∃ ns ∈ nss, tI ns = t := by
        have : t ∈ nss.map tI := by rw [e2]; simp
        simpa using this
      have hlen := h3 ns hns
      simp only [dFz, start2, ends, dSeq, dIfS, dTru_at, dBin, dUn, dVar, dCB, dMt, dCons, dNil, dRet, dRetN, dExpr, dAsg, gName, dC, dNext, dTup, dLst, dDic, dIsi_at, dAnd, dOr, dNot, dAndV_at, dOrV_at, dNotV_at, dIf, dSl, dPart_at, dNoPart, dFor, iSeq_at, iRng1_at, dCall, dComp, rAdd_int, rAdd_tup, rAdd_ref, rAdd_rol, rSub_int, rMul_int, rMod_int, rFdiv_int, rNeg_int, rLt_int, rLe_int, rGt_int, rGe_int, rIx_ref, rIx_tupM, rIx_rolM, rSl_tup, rSl_rol, rSl_ref, cLen_rol, cLen_tup, cLen_ref, cList_ref, mAppend_ref, mExtend_ref, mInsert_ref, mSetdefault_ref, tyL_ref, tyC_ref, tyL_rol, tyS_str, true_and, and_true, iAt_rol, iAt_tup, iAt_ref, partAt_int, truAt_bl, truAt_ref, rngAt_int, isAt_int, isAt_bl, isAt_tup, isAt_ref, List.map_cons, List.map_nil, List.cons_append, List.nil_append, List.getElem?_cons_zero, List.getElem?_cons_succ, List.set_cons_zero, List.set_cons_succ, List.length_cons, List.length_nil, List.replicate, if_true, if_false, Bool.not_true, Bool.not_false, Bool.false_eq_true, beq_self_eq_true]
      refine ⟨_, _, .int _, .int _, ?_⟩
      simp only [dFz, start2, ends, dSeq, dIfS, dTru_at, dBin, dUn, dVar, dCB, dMt, dCons, dNil, dRet, dRetN, dExpr, dAsg, gName, dC, dNext, dTup, dLst, dDic, dIsi_at, dAnd, dOr, dNot, dAndV_at, dOrV_at, dNotV_at, dIf, dSl, dPart_at, dNoPart, dFor, iSeq_at, iRng1_at, dCall, dComp, rAdd_int, rAdd_tup, rAdd_ref, rAdd_rol, rSub_int, rMul_int, rMod_int, rFdiv_int, rNeg_int, rLt_int, rLe_int, rGt_int, rGe_int, rIx_ref, rIx_tupM, rIx_rolM, rSl_tup, rSl_rol, rSl_ref, cLen_rol, cLen_tup, cLen_ref, cList_ref, mAppend_ref, mExtend_ref, mInsert_ref, mSetdefault_ref, tyL_ref, tyC_ref, tyL_rol, tyS_str, true_and, and_true, iAt_rol, iAt_tup, iAt_ref, partAt_int, truAt_bl, truAt_ref, rngAt_int, isAt_int, isAt_bl, isAt_tup, isAt_ref, List.map_cons, List.map_nil, List.cons_append, List.nil_append, List.getElem?_cons_zero, List.getElem?_cons_succ, List.set_cons_zero, List.set_cons_succ, List.length_cons, List.length_nil, List.replicate, if_true, if_false, Bool.not_true, Bool.not_false, Bool.false_eq_true, hlen, List.length_map, eqD]
      refine ⟨by decide, ?_⟩
      refine comp_by (fun pre acc τ G' => G' = G2 ∧ acc = List.replicate pre.length (D.bl true) ∧ ∃ a, τ = [a]) ⟨rfl, rfl, _, rfl⟩ (fun _ _ _ _ _ => trivial) ?_ ?_
      · rintro pre3 d3 post3 acc τ G3 N3 e3 ⟨rfl, rfl, a, rfl⟩ hN3
        obtain ⟨i, rfl⟩ : ∃ i, D.int i = d3 := by
          have : d3 ∈ ns.map D.int := by rw [e3]; simp
          obtain ⟨i, _, h⟩ := List.mem_map.mp this
          exact ⟨i, h⟩
        simp only [dFz, start2, ends, dSeq, dIfS, dTru_at, dBin, dUn, dVar, dCB, dMt, dCons, dNil, dRet, dRetN, dExpr, dAsg, gName, dC, dNext, dTup, dLst, dDic, dIsi_at, dAnd, dOr, dNot, dAndV_at, dOrV_at, dNotV_at, dIf, dSl, dPart_at, dNoPart, dFor, iSeq_at, iRng1_at, dCall, dComp, rAdd_int, rAdd_tup, rAdd_ref, rAdd_rol, rSub_int, rMul_int, rMod_int, rFdiv_int, rNeg_int, rLt_int, rLe_int, rGt_int, rGe_int, rIx_ref, rIx_tupM, rIx_rolM, rSl_tup, rSl_rol, rSl_ref, cLen_rol, cLen_tup, cLen_ref, cList_ref, mAppend_ref, mExtend_ref, mInsert_ref, mSetdefault_ref, tyL_ref, tyC_ref, tyL_rol, tyS_str, true_and, and_true, iAt_rol, iAt_tup, iAt_ref, partAt_int, truAt_bl, truAt_ref, rngAt_int, isAt_int, isAt_bl, isAt_tup, isAt_ref, List.map_cons, List.map_nil, List.cons_append, List.nil_append, List.getElem?_cons_zero, List.getElem?_cons_succ, List.set_cons_zero, List.set_cons_succ, List.length_cons, List.length_nil, List.replicate, if_true, if_false, Bool.not_true, Bool.not_false, Bool.false_eq_true]
        refine ⟨i, rfl, hN3 _ _ _ ⟨rfl, ?_, _, rfl⟩⟩
        simp [List.replicate_succ']
      · rintro acc τ G3 ⟨rfl, rfl, a, rfl⟩ p hp
        refine ⟨List.replicate (ns.map D.int).length true, ?_, ?_⟩
        · unfold itemsOf; simp only [updG_same]; simp
        · simp only [dFz, start2, ends, dSeq, dIfS, dTru_at, dBin, dUn, dVar, dCB, dMt, dCons, dNil, dRet, dRetN, dExpr, dAsg, gName, dC, dNext, dTup, dLst, dDic, dIsi_at, dAnd, dOr, dNot, dAndV_at, dOrV_at, dNotV_at, dIf, dSl, dPart_at, dNoPart, dFor, iSeq_at, iRng1_at, dCall, dComp, rAdd_int, rAdd_tup, rAdd_ref, rAdd_rol, rSub_int, rMul_int, rMod_int, rFdiv_int, rNeg_int, rLt_int, rLe_int, rGt_int, rGe_int, rIx_ref, rIx_tupM, rIx_rolM, rSl_tup, rSl_rol, rSl_ref, cLen_rol, cLen_tup, cLen_ref, cList_ref, mAppend_ref, mExtend_ref, mInsert_ref, mSetdefault_ref, tyL_ref, tyC_ref, tyL_rol, tyS_str, true_and, and_true, iAt_rol, iAt_tup, iAt_ref, partAt_int, truAt_bl, truAt_ref, rngAt_int, isAt_int, isAt_bl, isAt_tup, isAt_ref, List.map_cons, List.map_nil, List.cons_append, List.nil_append, List.getElem?_cons_zero, List.getElem?_cons_succ, List.set_cons_zero, List.set_cons_succ, List.length_cons, List.length_nil, List.replicate, if_true, if_false, Bool.not_true, Bool.not_false, Bool.false_eq_true]
          have e : (List.replicate (List.map D.int ns).length true).all id = true := by simp
          rw [e]
          simp only [dFz, start2, ends, dSeq, dIfS, dTru_at, dBin, dUn, dVar, dCB, dMt, dCons, dNil, dRet, dRetN, dExpr, dAsg, gName, dC, dNext, dTup, dLst, dDic, dIsi_at, dAnd, dOr, dNot, dAndV_at, dOrV_at, dNotV_at, dIf, dSl, dPart_at, dNoPart, dFor, iSeq_at, iRng1_at, dCall, dComp, rAdd_int, rAdd_tup, rAdd_ref, rAdd_rol, rSub_int, rMul_int, rMod_int, rFdiv_int, rNeg_int, rLt_int, rLe_int, rGt_int, rGe_int, rIx_ref, rIx_tupM, rIx_rolM, rSl_tup, rSl_rol, rSl_ref, cLen_rol, cLen_tup, cLen_ref, cList_ref, mAppend_ref, mExtend_ref, mInsert_ref, mSetdefault_ref, tyL_ref, tyC_ref, tyL_rol, tyS_str, true_and, and_true, iAt_rol, iAt_tup, iAt_ref, partAt_int, truAt_bl, truAt_ref, rngAt_int, isAt_int, isAt_bl, isAt_tup, isAt_ref, List.map_cons, List.map_nil, List.cons_append, List.nil_append, List.getElem?_cons_zero, List.getElem?_cons_succ, List.set_cons_zero, List.set_cons_succ, List.length_cons, List.length_nil, List.replicate, if_true, if_false, Bool.not_true, Bool.not_false, Bool.false_eq_true]
          exact hN2 _ _ ⟨l2.trans (.new hp), _, _, _, rfl⟩
    · rintro τ G2 ⟨l2, a, b, c, rfl⟩
      exact hN _ _ ⟨l1.trans l2, _, _, _, rfl⟩
  · rintro τ G1 ⟨l1, a, b, c, rfl⟩
    simp only [dFz, start2, ends, dSeq, dIfS, dTru_at, dBin, dUn, dVar, dCB, dMt, dCons, dNil, dRet, dRetN, dExpr, dAsg, gName, dC, dNext, dTup, dLst, dDic, dIsi_at, dAnd, dOr, dNot, dAndV_at, dOrV_at, dNotV_at, dIf, dSl, dPart_at, dNoPart, dFor, iSeq_at, iRng1_at, dCall, dComp, rAdd_int, rAdd_tup, rAdd_ref, rAdd_rol, rSub_int, rMul_int, rMod_int, rFdiv_int, rNeg_int, rLt_int, rLe_int, rGt_int, rGe_int, rIx_ref, rIx_tupM, rIx_rolM, rSl_tup, rSl_rol, rSl_ref, cLen_rol, cLen_tup, cLen_ref, cList_ref, mAppend_ref, mExtend_ref, mInsert_ref, mSetdefault_ref, tyL_ref, tyC_ref, tyL_rol, tyS_str, true_and, and_true, iAt_rol, iAt_tup, iAt_ref, partAt_int, truAt_bl, truAt_ref, rngAt_int, isAt_int, isAt_bl, isAt_tup, isAt_ref, List.map_cons, List.map_nil, List.cons_append, List.nil_append, List.getElem?_cons_zero, List.getElem?_cons_succ, List.set_cons_zero, List.set_cons_succ, List.length_cons, List.length_nil, List.replicate, if_true, if_false, Bool.not_true, Bool.not_false, Bool.false_eq_true]
    exact fz_drop l1 q

/-! ### the row -/
def rd_law_row : TS2 :=
  (dSeq (dAsg (dC (.int 999)) (gName 1))
  (dSeq (dIfS (dTru (dBin (rEq false) (dBin rMod (dCall sp_law_cell (dCons (dVar 0) (dCons (dC (.int 0)) dNil))) (dC (.int 2))) (dC (.int 1)))) (dAsg (dC (.int 9)) (gName 1)) dNext)
  (dSeq (dAsg (dLst dNil) (gName 2))
  (dSeq (dAsg dDic (gName 3))
  (dSeq (dFor (iSeq (dSl (dVar 0) (dPart (dC (.int 1))) (dPart (dC (.int 25))))) (gName 4) (dSeq (dAsg (dBin rAdd (dC (.int 1)) (dBin rMod (dBin rMod (dBin rMul (dVar 4) (dC (.int 48271))) (dC (.int 1000003))) (dVar 1))) (gName 5))
  (dSeq (dAsg (dBin rMod (dBin rFdiv (dVar 4) (dC (.int 2))) (dC (.int 2))) (gName 6))
  (dSeq (dAsg (dMt tyC mSetdefault (dVar 3) (dCons (dVar 5) (dCons (dBin rSub (dC (.int 1)) (dBin rMul (dC (.int 2)) (dBin rMod (dBin rFdiv (dVar 4) (dC (.int 4))) (dC (.int 2))))) dNil))) (gName 7))
  (dIfS (dTru (dBin (rIn true) (dTup (dCons (dVar 5) (dCons (dVar 6) (dCons (dVar 7) dNil)))) (dVar 2))) (dExpr (dMt tyL mAppend (dVar 2) (dCons (dTup (dCons (dVar 5) (dCons (dVar 6) (dCons (dVar 7) dNil)))) dNil))) dNext)))))
  (dRet (dFz (dVar 2))))))))
/-- rows as the law draws them -/
structure Good (L : List (List Int)) : Prop where
  three : ∀ t ∈ L, ∃ a b c : Int, t = [a, b, c]
  two : ∀ a b c c' : Int, [a, b, c] ∈ L → [a, b, c'] ∈ L → c = c'
  nd : L.Nodup
  len : L.length ≤ 24
def sp_law_row : Sp2 := fun ds G Q _ => ∃ ns : List Int, ds = [.rol (ns.map D.int)] ∧ ∀ L, Good L → Q (.rol (L.map tI)) G
/-- what is kept by the hands' dict -/
structure Kept (kvs : List (D × D)) (L : List (List Int)) : Prop where
  keys : ∀ p ∈ kvs, ∃ i j : Int, p = (.int i, .int j)
  has : ∀ a b c : Int, [a, b, c] ∈ L → look kvs (.int a) = some (.int c)
theorem look_put_same {kvs : List (D × D)} {i : Int} {v : D} (h : look kvs (.int i) = none) : put kvs (.int i) v = kvs ++ [(.int i, v)] := by
  unfold put
  rw [if_neg]
  intro hc
  unfold look at h
  rw [Option.map_eq_none_iff, List.find?_eq_none] at h
  obtain ⟨p, hp, e⟩ := List.any_eq_true.mp hc
  exact absurd e (h p hp)
theorem look_app {kvs : List (D × D)} {i j : Int} {v : D} (h : look kvs (.int i) = none) : look (kvs ++ [(.int i, v)]) (.int j) = if i = j then some v else look kvs (.int j) := by
  by_cases e : i = j
  · subst e
    unfold look at h ⊢
    rw [Option.map_eq_none_iff] at h
    rw [List.find?_append, h]
    simp [eqD]
  · rw [if_neg e]
    unfold look
    rw [List.find?_append]
    have : [(D.int i, v)].find? (fun p => eqD p.1 (.int j)) = none := by simp [eqD, e]
    rw [this, Option.or_none]
theorem any_tI (L : List (List Int)) (t : List Int) : (L.map tI).any (eqD · (tI t)) = decide (t ∈ L) := by
  induction L with
  | nil => simp
  | cons a r ih => simp only [List.map_cons, List.any_cons, eqD_tI, ih, List.mem_cons]; by_cases h : a = t <;> by_cases h2 : t ∈ r <;> simp [h, h2, eq_comm] <;> (intro z; exact h z.symm)
theorem OK_law_row (ds : List D) (G : Gp) (Q : DK) (h : sp_law_row ds G Q fun _ _ => False) : rd_law_row (fun _ _ => False) (ends Q) (start2 8 ds) G := by
  obtain ⟨ns, rfl, q⟩ := h
  unfold rd_law_row
  simp only [dFz, start2, ends, dTru_at, dBin, dUn, dVar, dCB, dMt, dCons, dNil, dRet, dRetN, dExpr, dAsg, gName, dC, dNext, dTup, dLst, dDic, dIsi_at, dAnd, dOr, dNot, dAndV_at, dOrV_at, dNotV_at, dSl, dPart_at, dNoPart, iSeq_at, iRng1_at, dCall, dComp, rAdd_int, rAdd_tup, rAdd_ref, rAdd_rol, rSub_int, rMul_int, rMod_int, rFdiv_int, rNeg_int, rLt_int, rLe_int, rGt_int, rGe_int, rIx_ref, rIx_tupM, rIx_rolM, rSl_tup, rSl_rol, rSl_ref, cLen_rol, cLen_tup, cLen_ref, cList_ref, mAppend_ref, mExtend_ref, mInsert_ref, mSetdefault_ref, tyL_ref, tyC_ref, tyL_rol, tyS_str, true_and, and_true, iAt_rol, iAt_tup, iAt_ref, partAt_int, truAt_bl, truAt_ref, rngAt_int, isAt_int, isAt_bl, isAt_tup, isAt_ref, List.map_cons, List.map_nil, List.cons_append, List.nil_append, List.getElem?_cons_zero, List.getElem?_cons_succ, List.set_cons_zero, List.set_cons_succ, List.length_cons, List.length_nil, List.replicate, if_true, if_false, Bool.not_true, Bool.not_false, Bool.false_eq_true, seq_asg, seq_expr]
  refine seq_by (fun τ G' => G = G' ∧ ∃ many : Int, 0 < many ∧ τ = [some (.rol (ns.map D.int)), some (.int many), none, none, none, none, none, none]) ?_ ?_
  · intro N hN
    simp only [dFz, start2, ends, dSeq, dIfS, dTru_at, dBin, dUn, dVar, dCB, dMt, dCons, dNil, dRet, dRetN, dExpr, dAsg, gName, dC, dNext, dTup, dLst, dDic, dIsi_at, dAnd, dOr, dNot, dAndV_at, dOrV_at, dNotV_at, dIf, dSl, dPart_at, dNoPart, dFor, iSeq_at, iRng1_at, dCall, dComp, rAdd_int, rAdd_tup, rAdd_ref, rAdd_rol, rSub_int, rMul_int, rMod_int, rFdiv_int, rNeg_int, rLt_int, rLe_int, rGt_int, rGe_int, rIx_ref, rIx_tupM, rIx_rolM, rSl_tup, rSl_rol, rSl_ref, cLen_rol, cLen_tup, cLen_ref, cList_ref, mAppend_ref, mExtend_ref, mInsert_ref, mSetdefault_ref, tyL_ref, tyC_ref, tyL_rol, tyS_str, true_and, and_true, iAt_rol, iAt_tup, iAt_ref, partAt_int, truAt_bl, truAt_ref, rngAt_int, isAt_int, isAt_bl, isAt_tup, isAt_ref, List.map_cons, List.map_nil, List.cons_append, List.nil_append, List.getElem?_cons_zero, List.getElem?_cons_succ, List.set_cons_zero, List.set_cons_succ, List.length_cons, List.length_nil, List.replicate, if_true, if_false, Bool.not_true, Bool.not_false, Bool.false_eq_true]
    refine ⟨ns, 0, rfl, Int.le_refl 0, by decide, _, _, .int _, .int _, ?_⟩
    simp only [dFz, start2, ends, dSeq, dIfS, dTru_at, dBin, dUn, dVar, dCB, dMt, dCons, dNil, dRet, dRetN, dExpr, dAsg, gName, dC, dNext, dTup, dLst, dDic, dIsi_at, dAnd, dOr, dNot, dAndV_at, dOrV_at, dNotV_at, dIf, dSl, dPart_at, dNoPart, dFor, iSeq_at, iRng1_at, dCall, dComp, rAdd_int, rAdd_tup, rAdd_ref, rAdd_rol, rSub_int, rMul_int, rMod_int, rFdiv_int, rNeg_int, rLt_int, rLe_int, rGt_int, rGe_int, rIx_ref, rIx_tupM, rIx_rolM, rSl_tup, rSl_rol, rSl_ref, cLen_rol, cLen_tup, cLen_ref, cList_ref, mAppend_ref, mExtend_ref, mInsert_ref, mSetdefault_ref, tyL_ref, tyC_ref, tyL_rol, tyS_str, true_and, and_true, iAt_rol, iAt_tup, iAt_ref, partAt_int, truAt_bl, truAt_ref, rngAt_int, isAt_int, isAt_bl, isAt_tup, isAt_ref, List.map_cons, List.map_nil, List.cons_append, List.nil_append, List.getElem?_cons_zero, List.getElem?_cons_succ, List.set_cons_zero, List.set_cons_succ, List.length_cons, List.length_nil, List.replicate, if_true, if_false, Bool.not_true, Bool.not_false, Bool.false_eq_true]
    split
    · exact hN _ _ ⟨rfl, 9, by decide, rfl⟩
    · exact hN _ _ ⟨rfl, 999, by decide, rfl⟩
  rintro _ _ ⟨rfl, many, hm, rfl⟩
  simp only [dFz, start2, ends, dTru_at, dBin, dUn, dVar, dCB, dMt, dCons, dNil, dRet, dRetN, dExpr, dAsg, gName, dC, dNext, dTup, dLst, dDic, dIsi_at, dAnd, dOr, dNot, dAndV_at, dOrV_at, dNotV_at, dSl, dPart_at, dNoPart, iSeq_at, iRng1_at, dCall, dComp, rAdd_int, rAdd_tup, rAdd_ref, rAdd_rol, rSub_int, rMul_int, rMod_int, rFdiv_int, rNeg_int, rLt_int, rLe_int, rGt_int, rGe_int, rIx_ref, rIx_tupM, rIx_rolM, rSl_tup, rSl_rol, rSl_ref, cLen_rol, cLen_tup, cLen_ref, cList_ref, mAppend_ref, mExtend_ref, mInsert_ref, mSetdefault_ref, tyL_ref, tyC_ref, tyL_rol, tyS_str, true_and, and_true, iAt_rol, iAt_tup, iAt_ref, partAt_int, truAt_bl, truAt_ref, rngAt_int, isAt_int, isAt_bl, isAt_tup, isAt_ref, List.map_cons, List.map_nil, List.cons_append, List.nil_append, List.getElem?_cons_zero, List.getElem?_cons_succ, List.set_cons_zero, List.set_cons_succ, List.length_cons, List.length_nil, List.replicate, if_true, if_false, Bool.not_true, Bool.not_false, Bool.false_eq_true, seq_asg, seq_expr]
  refine ⟨by decide, fun p hp => ?_⟩
  simp only [dFz, start2, ends, dSeq, dIfS, dTru_at, dBin, dUn, dVar, dCB, dMt, dCons, dNil, dRet, dRetN, dExpr, dAsg, gName, dC, dNext, dTup, dLst, dDic, dIsi_at, dAnd, dOr, dNot, dAndV_at, dOrV_at, dNotV_at, dIf, dSl, dPart_at, dNoPart, dFor, iSeq_at, iRng1_at, dCall, dComp, rAdd_int, rAdd_tup, rAdd_ref, rAdd_rol, rSub_int, rMul_int, rMod_int, rFdiv_int, rNeg_int, rLt_int, rLe_int, rGt_int, rGe_int, rIx_ref, rIx_tupM, rIx_rolM, rSl_tup, rSl_rol, rSl_ref, cLen_rol, cLen_tup, cLen_ref, cList_ref, mAppend_ref, mExtend_ref, mInsert_ref, mSetdefault_ref, tyL_ref, tyC_ref, tyL_rol, tyS_str, true_and, and_true, iAt_rol, iAt_tup, iAt_ref, partAt_int, truAt_bl, truAt_ref, rngAt_int, isAt_int, isAt_bl, isAt_tup, isAt_ref, List.map_cons, List.map_nil, List.cons_append, List.nil_append, List.getElem?_cons_zero, List.getElem?_cons_succ, List.set_cons_zero, List.set_cons_succ, List.length_cons, List.length_nil, List.replicate, if_true, if_false, Bool.not_true, Bool.not_false, Bool.false_eq_true, dNew]
  intro h hh c hc
  simp only [dFz, start2, ends, dSeq, dIfS, dTru_at, dBin, dUn, dVar, dCB, dMt, dCons, dNil, dRet, dRetN, dExpr, dAsg, gName, dC, dNext, dTup, dLst, dDic, dIsi_at, dAnd, dOr, dNot, dAndV_at, dOrV_at, dNotV_at, dIf, dSl, dPart_at, dNoPart, dFor, iSeq_at, iRng1_at, dCall, dComp, rAdd_int, rAdd_tup, rAdd_ref, rAdd_rol, rSub_int, rMul_int, rMod_int, rFdiv_int, rNeg_int, rLt_int, rLe_int, rGt_int, rGe_int, rIx_ref, rIx_tupM, rIx_rolM, rSl_tup, rSl_rol, rSl_ref, cLen_rol, cLen_tup, cLen_ref, cList_ref, mAppend_ref, mExtend_ref, mInsert_ref, mSetdefault_ref, tyL_ref, tyC_ref, tyL_rol, tyS_str, true_and, and_true, iAt_rol, iAt_tup, iAt_ref, partAt_int, truAt_bl, truAt_ref, rngAt_int, isAt_int, isAt_bl, isAt_tup, isAt_ref, List.map_cons, List.map_nil, List.cons_append, List.nil_append, List.getElem?_cons_zero, List.getElem?_cons_succ, List.set_cons_zero, List.set_cons_succ, List.length_cons, List.length_nil, List.replicate, if_true, if_false, Bool.not_true, Bool.not_false, Bool.false_eq_true, updG_same]
  have hhp : h ≠ p := by rintro rfl; rw [updG_same] at hh; cases hh
  have hcp : c ≠ p := by rintro rfl; rw [updG_ne (Ne.symm hhp), updG_same] at hc; cases hc
  have hch : c ≠ h := by rintro rfl; rw [updG_same] at hc; cases hc
  rw [updG_ne hhp] at hh
  rw [updG_ne hch, updG_ne hcp] at hc
  have hcl : (cut (ns.map D.int) (some 1) (some 25)).length ≤ 24 := by
    unfold cut sIx
    simp only [List.length_take, List.length_drop]
    split <;> split <;> omega
  have hci : ∀ d ∈ cut (ns.map D.int) (some 1) (some 25), ∃ i : Int, d = .int i := by
    intro d hd
    unfold cut at hd
    have h1 := List.mem_of_mem_drop (List.mem_of_mem_take hd)
    obtain ⟨i, _, e⟩ := List.mem_map.mp h1
    exact ⟨i, e.symm⟩
  refine for_by (fun pre τ G' => ∃ (L : List (List Int)) (kvs : List (D × D)) (a b d e : Option D), τ = [some (.rol (ns.map D.int)), some (.int many), some (.ref p), some (.ref h), a, b, d, e] ∧ GLe G G' ∧ G' c = some (.lst (cut (ns.map D.int) (some 1) (some 25))) ∧
    G' p = some (.lst (L.map tI)) ∧ G' h = some (.dic kvs) ∧ Good L ∧ Kept kvs L ∧ L.length ≤ pre.length ∧ kvs.length ≤ pre.length) ?_ (fun pre τ G' ⟨L, kvs, _, _, _, _, _, _, h, _⟩ => h) ?_ ?_
  · refine ⟨[], [], _, _, _, _, rfl, ((GLe.new hp).trans (.new (by rw [updG_ne hhp]; exact hh))).trans (.new (by rw [updG_ne hch, updG_ne hcp]; exact hc)), updG_same, ?_, ?_, ⟨by simp, by simp, List.nodup_nil, by simp⟩, ⟨by simp, by simp⟩, by simp, by simp⟩
    · rw [updG_ne (Ne.symm hcp), updG_ne (Ne.symm hhp), updG_same]; rfl
    · rw [updG_ne (Ne.symm hch), updG_same]
  · rintro pre d post τ G' N e ⟨L, kvs, a1, a2, a3, a4, rfl, l, gc, gp, gh, good, kept, l1, l2⟩ hN
    obtain ⟨v, rfl⟩ := hci d (by rw [e]; simp)
    have hpre : pre.length < 24 := by have := congrArg List.length e; simp at this; omega
    simp only [dFz, start2, ends, dSeq, dIfS, dTru_at, dBin, dUn, dVar, dCB, dMt, dCons, dNil, dRet, dRetN, dExpr, dAsg, gName, dC, dNext, dTup, dLst, dDic, dIsi_at, dAnd, dOr, dNot, dAndV_at, dOrV_at, dNotV_at, dIf, dSl, dPart_at, dNoPart, dFor, iSeq_at, iRng1_at, dCall, dComp, rAdd_int, rAdd_tup, rAdd_ref, rAdd_rol, rSub_int, rMul_int, rMod_int, rFdiv_int, rNeg_int, rLt_int, rLe_int, rGt_int, rGe_int, rIx_ref, rIx_tupM, rIx_rolM, rSl_tup, rSl_rol, rSl_ref, cLen_rol, cLen_tup, cLen_ref, cList_ref, mAppend_ref, mExtend_ref, mInsert_ref, mSetdefault_ref, tyL_ref, tyC_ref, tyL_rol, tyS_str, true_and, and_true, iAt_rol, iAt_tup, iAt_ref, partAt_int, truAt_bl, truAt_ref, rngAt_int, isAt_int, isAt_bl, isAt_tup, isAt_ref, List.map_cons, List.map_nil, List.cons_append, List.nil_append, List.getElem?_cons_zero, List.getElem?_cons_succ, List.set_cons_zero, List.set_cons_succ, List.length_cons, List.length_nil, List.replicate, if_true, if_false, Bool.not_true, Bool.not_false, Bool.false_eq_true, gh, gp]
    refine ⟨.inr (by decide), by decide, hm, by decide, by decide, by decide, by decide, by decide, by decide, .inl (by decide), ?_, rfl, ?_⟩
    · unfold kindOk keyOk1
      rw [Bool.or_eq_true]; left
      rw [Bool.true_and, List.all_eq_true]
      intro p' hp'
      obtain ⟨i, j, rfl⟩ := kept.keys p' hp'
      rfl
    generalize 1 + v * 48271 % 1000003 % many = nm
    generalize v / 2 % 2 = wy
    generalize 1 - 2 * (v / 4 % 2) = hd
    have fin : ∀ (x : Int) (kvs' : List (D × D)) (G2 : Gp), GLe G G2 → G2 c = some (.lst (cut (ns.map D.int) (some 1) (some 25))) → G2 p = some (.lst (L.map tI)) → G2 h = some (.dic kvs') → Kept kvs' L → look kvs' (.int nm) = some (.int x) → kvs'.length ≤ pre.length + 1 →
        dIfS (dTru (dBin (rIn true) (dTup (dCons (dVar 5) (dCons (dVar 6) (dCons (dVar 7) dNil)))) (dVar 2))) (dExpr (dMt tyL mAppend (dVar 2) (dCons (dTup (dCons (dVar 5) (dCons (dVar 6) (dCons (dVar 7) dNil)))) dNil))) dNext (fun _ _ => False)
          { (ends Q) with nx := N, ct := N, bk := (ends Q).nx } [some (.rol (ns.map D.int)), some (.int many), some (.ref p), some (.ref h), some (.int v), some (.int nm), some (.int wy), some (.int x)] G2 := by
      intro x kvs' G2 l gc gp gh kept hlk hk
      simp only [dFz, start2, ends, dSeq, dIfS, dTru_at, dBin, dUn, dVar, dCB, dMt, dCons, dNil, dRet, dRetN, dExpr, dAsg, gName, dC, dNext, dTup, dLst, dDic, dIsi_at, dAnd, dOr, dNot, dAndV_at, dOrV_at, dNotV_at, dIf, dSl, dPart_at, dNoPart, dFor, iSeq_at, iRng1_at, dCall, dComp, rAdd_int, rAdd_tup, rAdd_ref, rAdd_rol, rSub_int, rMul_int, rMod_int, rFdiv_int, rNeg_int, rLt_int, rLe_int, rGt_int, rGe_int, rIx_ref, rIx_tupM, rIx_rolM, rSl_tup, rSl_rol, rSl_ref, cLen_rol, cLen_tup, cLen_ref, cList_ref, mAppend_ref, mExtend_ref, mInsert_ref, mSetdefault_ref, tyL_ref, tyC_ref, tyL_rol, tyS_str, true_and, and_true, iAt_rol, iAt_tup, iAt_ref, partAt_int, truAt_bl, truAt_ref, rngAt_int, isAt_int, isAt_bl, isAt_tup, isAt_ref, List.map_cons, List.map_nil, List.cons_append, List.nil_append, List.getElem?_cons_zero, List.getElem?_cons_succ, List.set_cons_zero, List.set_cons_succ, List.length_cons, List.length_nil, List.replicate, if_true, if_false, Bool.not_true, Bool.not_false, Bool.false_eq_true, rIn, gp]
      have fold3 : D.tup [.int nm, .int wy, .int x] = tI [nm, wy, x] := rfl
      refine ⟨by decide, tI [nm, wy, x], L.map tI, Sn.tI [nm, wy, x], Sn.rT L, ?_⟩
      simp only [dFz, start2, ends, dSeq, dIfS, dTru_at, dBin, dUn, dVar, dCB, dMt, dCons, dNil, dRet, dRetN, dExpr, dAsg, gName, dC, dNext, dTup, dLst, dDic, dIsi_at, dAnd, dOr, dNot, dAndV_at, dOrV_at, dNotV_at, dIf, dSl, dPart_at, dNoPart, dFor, iSeq_at, iRng1_at, dCall, dComp, rAdd_int, rAdd_tup, rAdd_ref, rAdd_rol, rSub_int, rMul_int, rMod_int, rFdiv_int, rNeg_int, rLt_int, rLe_int, rGt_int, rGe_int, rIx_ref, rIx_tupM, rIx_rolM, rSl_tup, rSl_rol, rSl_ref, cLen_rol, cLen_tup, cLen_ref, cList_ref, mAppend_ref, mExtend_ref, mInsert_ref, mSetdefault_ref, tyL_ref, tyC_ref, tyL_rol, tyS_str, true_and, and_true, iAt_rol, iAt_tup, iAt_ref, partAt_int, truAt_bl, truAt_ref, rngAt_int, isAt_int, isAt_bl, isAt_tup, isAt_ref, List.map_cons, List.map_nil, List.cons_append, List.nil_append, List.getElem?_cons_zero, List.getElem?_cons_succ, List.set_cons_zero, List.set_cons_succ, List.length_cons, List.length_nil, List.replicate, if_true, if_false, Bool.not_true, Bool.not_false, Bool.false_eq_true, any_tI, gp]
      by_cases hm : [nm, wy, x] ∈ L
      · simp only [hm, decide_true, Bool.not_true, Bool.false_eq_true, if_false]
        exact hN _ _ ⟨L, kvs', _, _, _, _, rfl, l, gc, gp, gh, good, kept, by simp; omega, by simp; omega⟩
      · simp only [hm, decide_false, Bool.not_false, if_true]
        refine ⟨by decide, by rw [List.length_map]; show L.length < 16777216; omega, ?_⟩
        refine hN _ _ ⟨L ++ [[nm, wy, x]], kvs', _, _, _, _, rfl, l.put hp, by rw [updG_ne hcp]; exact gc, by rw [updG_same, List.map_append]; rfl, by rw [updG_ne hhp]; exact gh, ?_, ?_, by simp; omega, by simp; omega⟩
        · refine ⟨fun t ht => ?_, fun a b c c' h1 h2 => ?_, ?_, by simp; omega⟩
          · rcases List.mem_append.mp ht with ht | ht
            · exact good.three t ht
            · exact ⟨nm, wy, x, List.mem_singleton.mp ht⟩
          · have k1 : ∀ z, [a, b, z] ∈ L ++ [[nm, wy, x]] → look kvs' (.int a) = some (.int z) := by
              intro z hz
              rcases List.mem_append.mp hz with hz | hz
              · exact kept.has a b z hz
              · have := List.mem_singleton.mp hz
                simp only [List.cons.injEq, and_true] at this
                obtain ⟨rfl, rfl, rfl⟩ := this
                exact hlk
            have h3 := (k1 c h1).symm.trans (k1 c' h2)
            injection h3 with h3; injection h3
          · rw [List.nodup_append]
            exact ⟨good.nd, by simp, fun a ha b hb e => by rw [List.mem_singleton] at hb; subst hb; subst e; exact hm ha⟩
        · refine ⟨kept.keys, fun a b c h => ?_⟩
          rcases List.mem_append.mp h with h | h
          · exact kept.has a b c h
          · have := List.mem_singleton.mp h
            simp only [List.cons.injEq, and_true] at this
            obtain ⟨rfl, rfl, rfl⟩ := this
            exact hlk
    cases hlk : look kvs (.int nm) with
    | some v' =>
      obtain ⟨x, rfl⟩ : ∃ x : Int, v' = .int x := by
        unfold look at hlk
        rw [Option.map_eq_some_iff] at hlk
        obtain ⟨p', hp', rfl⟩ := hlk
        obtain ⟨i, j, rfl⟩ := kept.keys p' (List.mem_of_find?_eq_some hp')
        exact ⟨j, rfl⟩
      exact fin x kvs G' l gc gp gh kept hlk (by omega)
    | none =>
      refine ⟨by show kvs.length < 16777216; omega, ?_⟩
      refine fin hd _ _ (l.put hh) (by rw [updG_ne hch]; exact gc) (by rw [updG_ne (Ne.symm hhp)]; exact gp) updG_same ?_ ?_ ?_
      · rw [look_put_same hlk]
        refine ⟨fun p' hp' => ?_, fun a b c h => ?_⟩
        · rcases List.mem_append.mp hp' with hp' | hp'
          · exact kept.keys p' hp'
          · exact ⟨nm, hd, List.mem_singleton.mp hp'⟩
        · rw [look_app hlk]
          have := kept.has a b c h
          rw [if_neg (by rintro rfl; rw [hlk] at this; cases this)]
          exact this
      · rw [look_put_same hlk, look_app hlk, if_pos rfl]
      · rw [look_put_same hlk]; simp; omega
  · rintro τ G' ⟨L, kvs, a1, a2, a3, a4, rfl, l, gc, gp, gh, good, kept, l1, l2⟩
    simp only [dFz, start2, ends, dSeq, dIfS, dTru_at, dBin, dUn, dVar, dCB, dMt, dCons, dNil, dRet, dRetN, dExpr, dAsg, gName, dC, dNext, dTup, dLst, dDic, dIsi_at, dAnd, dOr, dNot, dAndV_at, dOrV_at, dNotV_at, dIf, dSl, dPart_at, dNoPart, dFor, iSeq_at, iRng1_at, dCall, dComp, rAdd_int, rAdd_tup, rAdd_ref, rAdd_rol, rSub_int, rMul_int, rMod_int, rFdiv_int, rNeg_int, rLt_int, rLe_int, rGt_int, rGe_int, rIx_ref, rIx_tupM, rIx_rolM, rSl_tup, rSl_rol, rSl_ref, cLen_rol, cLen_tup, cLen_ref, cList_ref, mAppend_ref, mExtend_ref, mInsert_ref, mSetdefault_ref, tyL_ref, tyC_ref, tyL_rol, tyS_str, true_and, and_true, iAt_rol, iAt_tup, iAt_ref, partAt_int, truAt_bl, truAt_ref, rngAt_int, isAt_int, isAt_bl, isAt_tup, isAt_ref, List.map_cons, List.map_nil, List.cons_append, List.nil_append, List.getElem?_cons_zero, List.getElem?_cons_succ, List.set_cons_zero, List.set_cons_succ, List.length_cons, List.length_nil, List.replicate, if_true, if_false, Bool.not_true, Bool.not_false, Bool.false_eq_true]
    exact fz_rol l hp gp (Fzs.same _) (q L good)

/-! ### the program's seated -/
def rd_seated : TS2 :=
  (dSeq (dIfS (dNot (dTru (dVar 0))) (dRet (dFz (dLst dNil))) dNext)
  (dSeq (dAsg (dMt tyL mIndex (dVar 0) (dCons (dCB cMin (dCons (dVar 0) dNil)) dNil)) (gName 1))
  (dRet (dFz (dBin rAdd (dSl (dVar 0) (dPart (dVar 1)) dNoPart) (dSl (dVar 0) dNoPart (dPart (dVar 1))))))))
def seat (L : List (List Int)) : List (List Int) := match minL L with
  | none => []
  | some m => L.drop (L.idxOf m) ++ L.take (L.idxOf m)
theorem minL_mem {L : List (List Int)} {m : List Int} (h : minL L = some m) : m ∈ L := by
  have go : ∀ (r : List (List Int)) (a : List Int), r.foldl (fun m x => if lexLt x m = true then x else m) a = a ∨ r.foldl (fun m x => if lexLt x m = true then x else m) a ∈ r := by
    intro r
    induction r with
    | nil => intro a; exact .inl rfl
    | cons b r ih =>
      intro a
      rw [List.foldl_cons]
      split
      · rcases ih b with e | e
        · right; rw [e]; simp
        · right; exact List.mem_cons_of_mem _ e
      · rcases ih a with e | e
        · exact .inl e
        · right; exact List.mem_cons_of_mem _ e
  cases L with
  | nil => cases h
  | cons a r =>
    have e : r.foldl (fun m x => if lexLt x m = true then x else m) a = m := by simpa [minL] using h
    rcases go r a with z | z
    · rw [← e, z]; simp
    · rw [← e]; exact List.mem_cons_of_mem _ z
theorem findIdx_tI (L : List (List Int)) {m : List Int} (h : m ∈ L) : (L.map tI).findIdx? (eqD · (tI m)) = some (L.idxOf m) := by
  induction L with
  | nil => cases h
  | cons a r ih =>
    rw [List.map_cons, List.findIdx?_cons, eqD_tI, List.idxOf_cons]
    by_cases e : a = m
    · simp [e]
    · have hm : m ∈ r := by rcases List.mem_cons.mp h with z | z; exact absurd z.symm e; exact z
      rw [ih hm]
      have z : (a == m) = false := by simpa using e
      simp [e, z]
theorem SnR_of {G : Gp} (L : List (List Int)) : Sn G SN (.rol (L.map tI)) (.rol (L.map tI)) := Sn.rT L
def sp_seated : Sp2 := fun ds G Q _ => ∃ (d : D) (L : List (List Int)), ds = [d] ∧ IsL G d (L.map tI) ∧ L.length ≤ 1000 ∧ ∀ p, G p = none → Q (.ref p) (updG G p (.lst ((seat L).map tI)))
theorem OK_seated (ds : List D) (G : Gp) (Q : DK) (h : sp_seated ds G Q fun _ _ => False) : rd_seated (fun _ _ => False) (ends Q) (start2 2 ds) G := by
  obtain ⟨d, L, rfl, hd, hl, q⟩ := h
  unfold rd_seated
  refine seq_by (fun τ G' => G = G' ∧ τ = [some d, none] ∧ L ≠ []) ?_ ?_
  · intro N hN
    simp only [dFz, start2, ends, dSeq, dIfS, dTru_at, dBin, dUn, dVar, dCB, dMt, dCons, dNil, dRet, dRetN, dExpr, dAsg, gName, dC, dNext, dTup, dLst, dDic, dIsi_at, dAnd, dOr, dNot, dAndV_at, dOrV_at, dNotV_at, dIf, dSl, dPart_at, dNoPart, dFor, iSeq_at, iRng1_at, dCall, dComp, rAdd_int, rAdd_tup, rAdd_ref, rAdd_rol, rSub_int, rMul_int, rMod_int, rFdiv_int, rNeg_int, rLt_int, rLe_int, rGt_int, rGe_int, rIx_ref, rIx_tupM, rIx_rolM, rSl_tup, rSl_rol, rSl_ref, cLen_rol, cLen_tup, cLen_ref, cList_ref, mAppend_ref, mExtend_ref, mInsert_ref, mSetdefault_ref, tyL_ref, tyC_ref, tyL_rol, tyS_str, true_and, and_true, iAt_rol, iAt_tup, iAt_ref, partAt_int, truAt_bl, truAt_ref, rngAt_int, isAt_int, isAt_bl, isAt_tup, isAt_ref, List.map_cons, List.map_nil, List.cons_append, List.nil_append, List.getElem?_cons_zero, List.getElem?_cons_succ, List.set_cons_zero, List.set_cons_succ, List.length_cons, List.length_nil, List.replicate, if_true, if_false, Bool.not_true, Bool.not_false, Bool.false_eq_true]
    refine truAt_of hd ?_
    cases L with
    | nil =>
      simp only [dFz, start2, ends, dSeq, dIfS, dTru_at, dBin, dUn, dVar, dCB, dMt, dCons, dNil, dRet, dRetN, dExpr, dAsg, gName, dC, dNext, dTup, dLst, dDic, dIsi_at, dAnd, dOr, dNot, dAndV_at, dOrV_at, dNotV_at, dIf, dSl, dPart_at, dNoPart, dFor, iSeq_at, iRng1_at, dCall, dComp, rAdd_int, rAdd_tup, rAdd_ref, rAdd_rol, rSub_int, rMul_int, rMod_int, rFdiv_int, rNeg_int, rLt_int, rLe_int, rGt_int, rGe_int, rIx_ref, rIx_tupM, rIx_rolM, rSl_tup, rSl_rol, rSl_ref, cLen_rol, cLen_tup, cLen_ref, cList_ref, mAppend_ref, mExtend_ref, mInsert_ref, mSetdefault_ref, tyL_ref, tyC_ref, tyL_rol, tyS_str, true_and, and_true, iAt_rol, iAt_tup, iAt_ref, partAt_int, truAt_bl, truAt_ref, rngAt_int, isAt_int, isAt_bl, isAt_tup, isAt_ref, List.map_cons, List.map_nil, List.cons_append, List.nil_append, List.getElem?_cons_zero, List.getElem?_cons_succ, List.set_cons_zero, List.set_cons_succ, List.length_cons, List.length_nil, List.replicate, if_true, if_false, Bool.not_true, Bool.not_false, Bool.false_eq_true, List.isEmpty_nil]
      refine ⟨by decide, fun p hp => fz_one (.new hp) hp updG_same (q p hp)⟩
    | cons a r =>
      simp only [dFz, start2, ends, dSeq, dIfS, dTru_at, dBin, dUn, dVar, dCB, dMt, dCons, dNil, dRet, dRetN, dExpr, dAsg, gName, dC, dNext, dTup, dLst, dDic, dIsi_at, dAnd, dOr, dNot, dAndV_at, dOrV_at, dNotV_at, dIf, dSl, dPart_at, dNoPart, dFor, iSeq_at, iRng1_at, dCall, dComp, rAdd_int, rAdd_tup, rAdd_ref, rAdd_rol, rSub_int, rMul_int, rMod_int, rFdiv_int, rNeg_int, rLt_int, rLe_int, rGt_int, rGe_int, rIx_ref, rIx_tupM, rIx_rolM, rSl_tup, rSl_rol, rSl_ref, cLen_rol, cLen_tup, cLen_ref, cList_ref, mAppend_ref, mExtend_ref, mInsert_ref, mSetdefault_ref, tyL_ref, tyC_ref, tyL_rol, tyS_str, true_and, and_true, iAt_rol, iAt_tup, iAt_ref, partAt_int, truAt_bl, truAt_ref, rngAt_int, isAt_int, isAt_bl, isAt_tup, isAt_ref, List.map_cons, List.map_nil, List.cons_append, List.nil_append, List.getElem?_cons_zero, List.getElem?_cons_succ, List.set_cons_zero, List.set_cons_succ, List.length_cons, List.length_nil, List.replicate, if_true, if_false, Bool.not_true, Bool.not_false, Bool.false_eq_true, List.isEmpty_cons]
      exact hN _ _ ⟨rfl, rfl, by simp⟩
  rintro _ _ ⟨rfl, rfl, hne⟩
  obtain ⟨m, hm⟩ : ∃ m, minL L = some m := by
    cases L with
    | nil => exact absurd rfl hne
    | cons a r => exact ⟨_, rfl⟩
  have hmem := minL_mem hm
  have hi : L.idxOf m < L.length := List.idxOf_lt_length_iff.mpr hmem
  simp only [dFz, start2, ends, dTru_at, dBin, dUn, dVar, dCB, dMt, dCons, dNil, dRet, dRetN, dExpr, dAsg, gName, dC, dNext, dTup, dLst, dDic, dIsi_at, dAnd, dOr, dNot, dAndV_at, dOrV_at, dNotV_at, dSl, dPart_at, dNoPart, iSeq_at, iRng1_at, dCall, dComp, rAdd_int, rAdd_tup, rAdd_ref, rAdd_rol, rSub_int, rMul_int, rMod_int, rFdiv_int, rNeg_int, rLt_int, rLe_int, rGt_int, rGe_int, rIx_ref, rIx_tupM, rIx_rolM, rSl_tup, rSl_rol, rSl_ref, cLen_rol, cLen_tup, cLen_ref, cList_ref, mAppend_ref, mExtend_ref, mInsert_ref, mSetdefault_ref, tyL_ref, tyC_ref, tyL_rol, tyS_str, true_and, and_true, iAt_rol, iAt_tup, iAt_ref, partAt_int, truAt_bl, truAt_ref, rngAt_int, isAt_int, isAt_bl, isAt_tup, isAt_ref, List.map_cons, List.map_nil, List.cons_append, List.nil_append, List.getElem?_cons_zero, List.getElem?_cons_succ, List.set_cons_zero, List.set_cons_succ, List.length_cons, List.length_nil, List.replicate, if_true, if_false, Bool.not_true, Bool.not_false, Bool.false_eq_true, seq_asg, seq_expr]
  refine ⟨tyL_of hd, ?_⟩
  refine .inr ⟨L, m, itemsOf_of hd, hm, ?_⟩
  refine ⟨tyL_of hd, _, tI m, L.map tI, itemsOf_of hd, Sn.tI m, SnR_of L, ?_⟩
  rw [findIdx_tI L hmem]
  simp only [dFz, start2, ends, dTru_at, dBin, dUn, dVar, dCB, dMt, dCons, dNil, dRet, dRetN, dExpr, dAsg, gName, dC, dNext, dTup, dLst, dDic, dIsi_at, dAnd, dOr, dNot, dAndV_at, dOrV_at, dNotV_at, dSl, dPart_at, dNoPart, iSeq_at, iRng1_at, dCall, dComp, rAdd_int, rAdd_tup, rAdd_ref, rAdd_rol, rSub_int, rMul_int, rMod_int, rFdiv_int, rNeg_int, rLt_int, rLe_int, rGt_int, rGe_int, rIx_ref, rIx_tupM, rIx_rolM, rSl_tup, rSl_rol, rSl_ref, cLen_rol, cLen_tup, cLen_ref, cList_ref, mAppend_ref, mExtend_ref, mInsert_ref, mSetdefault_ref, tyL_ref, tyC_ref, tyL_rol, tyS_str, true_and, and_true, iAt_rol, iAt_tup, iAt_ref, partAt_int, truAt_bl, truAt_ref, rngAt_int, isAt_int, isAt_bl, isAt_tup, isAt_ref, List.map_cons, List.map_nil, List.cons_append, List.nil_append, List.getElem?_cons_zero, List.getElem?_cons_succ, List.set_cons_zero, List.set_cons_succ, List.length_cons, List.length_nil, List.replicate, if_true, if_false, Bool.not_true, Bool.not_false, Bool.false_eq_true, seq_asg, seq_expr]
  refine rSl_of hd fun p1 h1 => ?_
  refine rSl_of (hd.mono (.new h1)) fun p2 h2 => ?_
  have hi' : L.idxOf m ≤ (L.map tI).length := by rw [List.length_map]; omega
  rw [cut_from _ _ hi', cut_to _ _ hi'] at *
  have h12 : p1 ≠ p2 := by rintro rfl; rw [updG_same] at h2; cases h2
  rw [rAdd_lst (by rw [updG_ne h12, updG_same]) updG_same]
  refine ⟨by rw [List.length_drop, List.length_take, List.length_map]; show _ ≤ 16777216; omega, fun p3 h3 => ?_⟩
  have l2 : GLe G (updG (updG G p1 (GO.lst ((L.map tI).drop (L.idxOf m)))) p2 (GO.lst ((L.map tI).take (L.idxOf m)))) := (GLe.new h1).trans (.new h2)
  refine fz_one (l2.trans (.new h3)) (l2.free h3) updG_same ?_
  have e : (seat L).map tI = (L.map tI).drop (L.idxOf m) ++ (L.map tI).take (L.idxOf m) := by
    unfold seat; rw [hm]; simp
  rw [← e]
  exact q p3 (l2.free h3)

/-! ### the order -/
theorem lexLt_irrefl : ∀ (x : List Int), lexLt x x = false
  | [] => rfl
  | a :: x => by simp only [lexLt, if_true]; exact lexLt_irrefl x
theorem lexLt_total : ∀ (x y : List Int), lexLt x y = false → lexLt y x = false → x = y
  | [], [], _, _ => rfl
  | [], _ :: _, h, _ => by cases h
  | _ :: _, [], _, h => by cases h
  | a :: x, b :: y, h1, h2 => by
    simp only [lexLt] at h1 h2
    by_cases e : a = b
    · subst e
      simp only [if_true] at h1 h2
      rw [lexLt_total x y h1 h2]
    · rw [if_neg e] at h1
      rw [if_neg (Ne.symm e)] at h2
      have := of_decide_eq_false h1
      have := of_decide_eq_false h2
      omega
theorem lexLt_trans : ∀ (x y z : List Int), lexLt x y = true → lexLt y z = true → lexLt x z = true
  | [], [], _, h, _ => by cases h
  | [], _ :: _, [], _, h => by cases h
  | [], _ :: _, _ :: _, _, _ => rfl
  | _ :: _, [], _, h, _ => by cases h
  | _ :: _, _ :: _, [], _, h => by cases h
  | a :: x, b :: y, c :: z, h1, h2 => by
    simp only [lexLt] at h1 h2 ⊢
    by_cases e1 : a = b
    · subst e1
      simp only [if_true] at h1
      by_cases e2 : a = c
      · subst e2
        simp only [if_true] at h2 ⊢
        exact lexLt_trans x y z h1 h2
      · rw [if_neg e2] at h2 ⊢; exact h2
    · rw [if_neg e1] at h1
      have h1 := of_decide_eq_true h1
      by_cases e2 : b = c
      · subst e2
        rw [if_neg e1]; exact decide_eq_true h1
      · rw [if_neg e2] at h2
        have h2 := of_decide_eq_true h2
        rw [if_neg (by omega)]; exact decide_eq_true (by omega)
theorem minL_least {L : List (List Int)} {m : List Int} (h : minL L = some m) : ∀ x ∈ L, lexLt x m = false := by
  have go : ∀ (r : List (List Int)) (a : List Int), ∀ x ∈ a :: r, lexLt x (r.foldl (fun m x => if lexLt x m = true then x else m) a) = false := by
    intro r
    induction r with
    | nil => intro a x hx; rw [List.mem_singleton.mp hx]; exact lexLt_irrefl a
    | cons b r ih =>
      intro a x hx
      rw [List.foldl_cons]
      by_cases c : lexLt b a = true
      · rw [if_pos c]
        rcases List.mem_cons.mp hx with e | e
        · subst e
          have := ih b b (by simp)
          cases q : lexLt x (r.foldl (fun m x => if lexLt x m = true then x else m) b) with
          | false => rfl
          | true => rw [lexLt_trans _ _ _ c q] at this; cases this
        · exact ih b x e
      · rw [if_neg c]
        rcases List.mem_cons.mp hx with e | e
        · subst e; exact ih x x (by simp)
        · rcases List.mem_cons.mp e with e | e
          · subst e
            have := ih a a (by simp)
            cases q : lexLt x (r.foldl (fun m x => if lexLt x m = true then x else m) a) with
            | false => rfl
            | true =>
              exfalso
              by_cases z : x = a
              · subst z; rw [this] at q; cases q
              · have hax : lexLt a x = true := by
                  cases w : lexLt a x with
                  | true => rfl
                  | false => exact absurd (lexLt_total _ _ (by simpa using c) w) z
                rw [lexLt_trans _ _ _ hax q] at this; cases this
          · exact ih a x (List.mem_cons_of_mem _ e)
  cases L with
  | nil => cases h
  | cons a r =>
    have e : r.foldl (fun m x => if lexLt x m = true then x else m) a = m := by simpa [minL] using h
    rw [← e]; exact go r a
theorem lex_two {a b c a' b' c' : Int} (h : lexLt [a, b] [a', b'] = false) (h2 : lexLt [a, b, c] [a', b', c'] = true) : a = a' ∧ b = b' := by
  simp only [lexLt] at h h2
  by_cases e1 : a = a'
  · by_cases e2 : b = b'
    · exact ⟨e1, e2⟩
    · simp only [e1, e2, if_true, if_false] at h h2
      rw [h] at h2; cases h2
  · simp only [e1, if_false] at h h2
    rw [h] at h2; cases h2
theorem least_is {L : List (List Int)} (g : Good L) {m : List Int} (hm : minL L = some m) {l : Nat} (hl : l < L.length) (h : ∀ j (hj : j < L.length), lexLt (L[j].take 2) (L[l].take 2) = false) : l = L.idxOf m := by
  have hmem := minL_mem hm
  have e : L[l] = m := by
    refine lexLt_total _ _ (minL_least hm _ (List.getElem_mem hl)) ?_
    cases q : lexLt m L[l] with
    | false => rfl
    | true =>
      exfalso
      obtain ⟨j, hj, rfl⟩ := List.getElem_of_mem hmem
      have h2 := h j hj
      obtain ⟨a, b, c, ea⟩ := g.three _ (List.getElem_mem hj)
      obtain ⟨a', b', c', ea'⟩ := g.three _ (List.getElem_mem hl)
      have m1 := List.getElem_mem hj
      have m2 := List.getElem_mem hl
      rw [ea] at q h2 m1
      rw [ea'] at q h2 m2
      obtain ⟨rfl, rfl⟩ := lex_two (show lexLt [a, b] [a', b'] = false from h2) q
      have := g.two a b c c' m1 m2
      subst this
      rw [lexLt_irrefl] at q; cases q
  rw [← e]
  exact (List.Nodup.idxOf_getElem g.nd l hl).symm
theorem turn_at (L : List (List Int)) (i k : Nat) (hi : i < L.length) (hk : k < L.length) : (L.drop i ++ L.take i)[k]? = L[(i + k) % L.length]? := by
  by_cases h : i + k < L.length
  · rw [Nat.mod_eq_of_lt h, List.getElem?_append_left (by rw [List.length_drop]; omega), List.getElem?_drop]
  · have : (i + k) % L.length = i + k - L.length := by
      rw [Nat.mod_eq_sub_mod (by omega), Nat.mod_eq_of_lt (by omega)]
    rw [this, List.getElem?_append_right (by rw [List.length_drop]; omega), List.length_drop, List.getElem?_take_of_lt (by omega)]
    congr 1; omega
/-! ### the law -/
def rd_law : TS2 :=
  (dSeq (dAsg (dCall sp_law_row (dCons (dVar 0) dNil)) (gName 1))
  (dSeq (dAsg (dCB cList (dCons (dVar 1) dNil)) (gName 2))
  (dSeq (dAsg (dCall sp_seated (dCons (dVar 2) dNil)) (gName 3))
  (dSeq (dIfS (dOr (dNot (dTru (dCall sp_law_rows_of_passings (dCons (dLst (dCons (dVar 3) dNil)) dNil)))) (dOr (dTru (dBin (rEq true) (dVar 2) (dVar 1))) (dTru (dBin (rEq true) (dCB cLen (dCons (dVar 3) dNil)) (dCB cLen (dCons (dVar 1) dNil)))))) (dRet (dFz (dC (.bl false)))) dNext)
  (dSeq (dIfS (dTru (dVar 1)) (dSeq (dAsg (dC (.int 0)) (gName 4))
  (dSeq (dFor (iRng1 (dCB cLen (dCons (dVar 1) dNil))) (gName 5) (dIfS (dTru (dBin rLt (dSl (dBin rIx (dVar 1) (dVar 5)) dNoPart (dPart (dC (.int 2)))) (dSl (dBin rIx (dVar 1) (dVar 4)) dNoPart (dPart (dC (.int 2)))))) (dAsg (dVar 5) (gName 4)) dNext))
  (dFor (iRng1 (dCB cLen (dCons (dVar 1) dNil))) (gName 5) (dIfS (dTru (dBin (rEq true) (dBin rIx (dVar 3) (dVar 5)) (dBin rIx (dVar 1) (dBin rMod (dBin rAdd (dVar 4) (dVar 5)) (dCB cLen (dCons (dVar 1) dNil)))))) (dRet (dFz (dC (.bl false)))) dNext)))) dNext)
  (dSeq (dExpr (dMt tyL mAppend (dVar 3) (dCons (dTup (dCons (dC (.int 1)) (dCons (dC (.int 0)) (dCons (dC (.int 1)) dNil)))) dNil)))
  (dRet (dFz (dBin (rEq false) (dVar 2) (dVar 1))))))))))
theorem seat_len (L : List (List Int)) : (seat L).length = L.length := by
  unfold seat
  cases L with
  | nil => rfl
  | cons a r => simp only [minL]; simp only [List.length_append, List.length_drop, List.length_take]; omega
theorem seat_mem {L : List (List Int)} {t : List Int} (h : t ∈ seat L) : t ∈ L := by
  unfold seat at h
  split at h
  · cases h
  · rcases List.mem_append.mp h with h | h
    · exact List.mem_of_mem_drop h
    · exact List.mem_of_mem_take h
theorem Sn.lst {G : Gp} {a : Nat} {L : List (List Int)} (h : G a = some (.lst (L.map tI))) : Sn G SN (.ref a) (.rol (L.map tI)) := .ref h (Sn.rT L)
theorem OK_law (ds : List D) (G : Gp) (Q : DK) (h : spLaw ds G Q fun _ _ => False) : rd_law (fun _ _ => False) (ends Q) (start2 6 ds) G := by
  obtain ⟨ns, rfl, _, _, q⟩ := h
  unfold rd_law
  simp only [dFz, start2, ends, dTru_at, dBin, dUn, dVar, dCB, dMt, dCons, dNil, dRet, dRetN, dExpr, dAsg, gName, dC, dNext, dTup, dLst, dDic, dIsi_at, dAnd, dOr, dNot, dAndV_at, dOrV_at, dNotV_at, dSl, dPart_at, dNoPart, iSeq_at, iRng1_at, dCall, dComp, rAdd_int, rAdd_tup, rAdd_ref, rAdd_rol, rSub_int, rMul_int, rMod_int, rFdiv_int, rNeg_int, rLt_int, rLe_int, rGt_int, rGe_int, rIx_ref, rIx_tupM, rIx_rolM, rSl_tup, rSl_rol, rSl_ref, cLen_rol, cLen_tup, cLen_ref, cList_ref, mAppend_ref, mExtend_ref, mInsert_ref, mSetdefault_ref, tyL_ref, tyC_ref, tyL_rol, tyS_str, true_and, and_true, iAt_rol, iAt_tup, iAt_ref, partAt_int, truAt_bl, truAt_ref, rngAt_int, isAt_int, isAt_bl, isAt_tup, isAt_ref, List.map_cons, List.map_nil, List.cons_append, List.nil_append, List.getElem?_cons_zero, List.getElem?_cons_succ, List.set_cons_zero, List.set_cons_succ, List.length_cons, List.length_nil, List.replicate, if_true, if_false, Bool.not_true, Bool.not_false, Bool.false_eq_true, seq_asg, seq_expr]
  refine ⟨ns, rfl, fun L good => ?_⟩
  have hlen := good.len
  refine cList_of (.inl rfl) fun h hh => ?_
  refine ⟨_, L, rfl, .inr ⟨h, rfl, updG_same⟩, by omega, fun p hp => ?_⟩
  have hph : h ≠ p := by rintro rfl; rw [updG_same] at hp; cases hp
  have g1 : updG (updG G h (GO.lst (L.map tI))) p (GO.lst ((seat L).map tI)) p = some (GO.lst ((seat L).map tI)) := updG_same
  have g2 : updG (updG G h (GO.lst (L.map tI))) p (GO.lst ((seat L).map tI)) h = some (GO.lst (L.map tI)) := by rw [updG_ne hph, updG_same]
  generalize updG (updG G h (GO.lst (L.map tI))) p (GO.lst ((seat L).map tI)) = G1 at g1 g2
  refine seq_by (fun τ G' => τ = [some (.rol (ns.map D.int)), some (.rol (L.map tI)), some (.ref h), some (.ref p), none, none] ∧ G' p = some (.lst ((seat L).map tI)) ∧ G' h = some (.lst (L.map tI))) ?_ ?_
  · intro N hN
    simp only [dFz, start2, ends, dSeq, dIfS, dTru_at, dBin, dUn, dVar, dCB, dMt, dCons, dNil, dRet, dRetN, dExpr, dAsg, gName, dC, dNext, dTup, dLst, dDic, dIsi_at, dAnd, dOr, dNot, dAndV_at, dOrV_at, dNotV_at, dIf, dSl, dPart_at, dNoPart, dFor, iSeq_at, iRng1_at, dCall, dComp, rAdd_int, rAdd_tup, rAdd_ref, rAdd_rol, rSub_int, rMul_int, rMod_int, rFdiv_int, rNeg_int, rLt_int, rLe_int, rGt_int, rGe_int, rIx_ref, rIx_tupM, rIx_rolM, rSl_tup, rSl_rol, rSl_ref, cLen_rol, cLen_tup, cLen_ref, cList_ref, mAppend_ref, mExtend_ref, mInsert_ref, mSetdefault_ref, tyL_ref, tyC_ref, tyL_rol, tyS_str, true_and, and_true, iAt_rol, iAt_tup, iAt_ref, partAt_int, truAt_bl, truAt_ref, rngAt_int, isAt_int, isAt_bl, isAt_tup, isAt_ref, List.map_cons, List.map_nil, List.cons_append, List.nil_append, List.getElem?_cons_zero, List.getElem?_cons_succ, List.set_cons_zero, List.set_cons_succ, List.length_cons, List.length_nil, List.replicate, if_true, if_false, Bool.not_true, Bool.not_false, Bool.false_eq_true]
    refine ⟨by decide, fun r hr => ?_⟩
    have hrp : p ≠ r := by rintro rfl; rw [g1] at hr; cases hr
    have hrh : h ≠ r := by rintro rfl; rw [g2] at hr; cases hr
    refine ⟨_, [.ref p], rfl, .inr ⟨r, rfl, updG_same⟩, ?_, ?_⟩
    · intro x hx
      rw [List.mem_singleton.mp hx]
      refine ⟨seat L, .inr ⟨p, rfl, by rw [updG_ne hrp]; exact g1⟩, fun t ht => ?_⟩
      obtain ⟨a, b, c, rfl⟩ := good.three t (seat_mem ht)
      rfl
    · simp only [dFz, start2, ends, dSeq, dIfS, dTru_at, dBin, dUn, dVar, dCB, dMt, dCons, dNil, dRet, dRetN, dExpr, dAsg, gName, dC, dNext, dTup, dLst, dDic, dIsi_at, dAnd, dOr, dNot, dAndV_at, dOrV_at, dNotV_at, dIf, dSl, dPart_at, dNoPart, dFor, iSeq_at, iRng1_at, dCall, dComp, rAdd_int, rAdd_tup, rAdd_ref, rAdd_rol, rSub_int, rMul_int, rMod_int, rFdiv_int, rNeg_int, rLt_int, rLe_int, rGt_int, rGe_int, rIx_ref, rIx_tupM, rIx_rolM, rSl_tup, rSl_rol, rSl_ref, cLen_rol, cLen_tup, cLen_ref, cList_ref, mAppend_ref, mExtend_ref, mInsert_ref, mSetdefault_ref, tyL_ref, tyC_ref, tyL_rol, tyS_str, true_and, and_true, iAt_rol, iAt_tup, iAt_ref, partAt_int, truAt_bl, truAt_ref, rngAt_int, isAt_int, isAt_bl, isAt_tup, isAt_ref, List.map_cons, List.map_nil, List.cons_append, List.nil_append, List.getElem?_cons_zero, List.getElem?_cons_succ, List.set_cons_zero, List.set_cons_succ, List.length_cons, List.length_nil, List.replicate, if_true, if_false, Bool.not_true, Bool.not_false, Bool.false_eq_true]
      refine ⟨_, _, Sn.lst (by rw [updG_ne hrh]; exact g2), Sn.rT L, ?_⟩
      simp only [dFz, start2, ends, dSeq, dIfS, dTru_at, dBin, dUn, dVar, dCB, dMt, dCons, dNil, dRet, dRetN, dExpr, dAsg, gName, dC, dNext, dTup, dLst, dDic, dIsi_at, dAnd, dOr, dNot, dAndV_at, dOrV_at, dNotV_at, dIf, dSl, dPart_at, dNoPart, dFor, iSeq_at, iRng1_at, dCall, dComp, rAdd_int, rAdd_tup, rAdd_ref, rAdd_rol, rSub_int, rMul_int, rMod_int, rFdiv_int, rNeg_int, rLt_int, rLe_int, rGt_int, rGe_int, rIx_ref, rIx_tupM, rIx_rolM, rSl_tup, rSl_rol, rSl_ref, cLen_rol, cLen_tup, cLen_ref, cList_ref, mAppend_ref, mExtend_ref, mInsert_ref, mSetdefault_ref, tyL_ref, tyC_ref, tyL_rol, tyS_str, true_and, and_true, iAt_rol, iAt_tup, iAt_ref, partAt_int, truAt_bl, truAt_ref, rngAt_int, isAt_int, isAt_bl, isAt_tup, isAt_ref, List.map_cons, List.map_nil, List.cons_append, List.nil_append, List.getElem?_cons_zero, List.getElem?_cons_succ, List.set_cons_zero, List.set_cons_succ, List.length_cons, List.length_nil, List.replicate, if_true, if_false, Bool.not_true, Bool.not_false, Bool.false_eq_true, eqD, eqDs_tIs, decide_true, updG_ne hrp, g1]
      refine ⟨_, _, .int _, .int _, ?_⟩
      simp only [dFz, start2, ends, dSeq, dIfS, dTru_at, dBin, dUn, dVar, dCB, dMt, dCons, dNil, dRet, dRetN, dExpr, dAsg, gName, dC, dNext, dTup, dLst, dDic, dIsi_at, dAnd, dOr, dNot, dAndV_at, dOrV_at, dNotV_at, dIf, dSl, dPart_at, dNoPart, dFor, iSeq_at, iRng1_at, dCall, dComp, rAdd_int, rAdd_tup, rAdd_ref, rAdd_rol, rSub_int, rMul_int, rMod_int, rFdiv_int, rNeg_int, rLt_int, rLe_int, rGt_int, rGe_int, rIx_ref, rIx_tupM, rIx_rolM, rSl_tup, rSl_rol, rSl_ref, cLen_rol, cLen_tup, cLen_ref, cList_ref, mAppend_ref, mExtend_ref, mInsert_ref, mSetdefault_ref, tyL_ref, tyC_ref, tyL_rol, tyS_str, true_and, and_true, iAt_rol, iAt_tup, iAt_ref, partAt_int, truAt_bl, truAt_ref, rngAt_int, isAt_int, isAt_bl, isAt_tup, isAt_ref, List.map_cons, List.map_nil, List.cons_append, List.nil_append, List.getElem?_cons_zero, List.getElem?_cons_succ, List.set_cons_zero, List.set_cons_succ, List.length_cons, List.length_nil, List.replicate, if_true, if_false, Bool.not_true, Bool.not_false, Bool.false_eq_true, eqD, List.length_map, seat_len, beq_self_eq_true]
      exact hN _ _ ⟨rfl, by rw [updG_ne hrp]; exact g1, by rw [updG_ne hrh]; exact g2⟩
  rintro _ G2 ⟨rfl, g1, g2⟩
  refine seq_by (fun τ G' => (∃ a b, τ = [some (.rol (ns.map D.int)), some (.rol (L.map tI)), some (.ref h), some (.ref p), a, b]) ∧ G' p = some (.lst ((seat L).map tI)) ∧ G' h = some (.lst (L.map tI))) ?_ ?_
  · intro N hN
    simp only [dFz, start2, ends, dTru_at, dBin, dUn, dVar, dCB, dMt, dCons, dNil, dRet, dRetN, dExpr, dAsg, gName, dC, dNext, dTup, dLst, dDic, dIsi_at, dAnd, dOr, dNot, dAndV_at, dOrV_at, dNotV_at, dSl, dPart_at, dNoPart, iSeq_at, iRng1_at, dCall, dComp, rAdd_int, rAdd_tup, rAdd_ref, rAdd_rol, rSub_int, rMul_int, rMod_int, rFdiv_int, rNeg_int, rLt_int, rLe_int, rGt_int, rGe_int, rIx_ref, rIx_tupM, rIx_rolM, rSl_tup, rSl_rol, rSl_ref, cLen_rol, cLen_tup, cLen_ref, cList_ref, mAppend_ref, mExtend_ref, mInsert_ref, mSetdefault_ref, tyL_ref, tyC_ref, tyL_rol, tyS_str, true_and, and_true, iAt_rol, iAt_tup, iAt_ref, partAt_int, truAt_bl, truAt_ref, rngAt_int, isAt_int, isAt_bl, isAt_tup, isAt_ref, List.map_cons, List.map_nil, List.cons_append, List.nil_append, List.getElem?_cons_zero, List.getElem?_cons_succ, List.set_cons_zero, List.set_cons_succ, List.length_cons, List.length_nil, List.replicate, if_true, if_false, Bool.not_true, Bool.not_false, Bool.false_eq_true, seq_asg, seq_expr, dIfS]
    refine truAt_of (.inl rfl) ?_
    by_cases hne : L = []
    · subst hne
      simp only [dFz, start2, ends, dTru_at, dBin, dUn, dVar, dCB, dMt, dCons, dNil, dRet, dRetN, dExpr, dAsg, gName, dC, dNext, dTup, dLst, dDic, dIsi_at, dAnd, dOr, dNot, dAndV_at, dOrV_at, dNotV_at, dSl, dPart_at, dNoPart, iSeq_at, iRng1_at, dCall, dComp, rAdd_int, rAdd_tup, rAdd_ref, rAdd_rol, rSub_int, rMul_int, rMod_int, rFdiv_int, rNeg_int, rLt_int, rLe_int, rGt_int, rGe_int, rIx_ref, rIx_tupM, rIx_rolM, rSl_tup, rSl_rol, rSl_ref, cLen_rol, cLen_tup, cLen_ref, cList_ref, mAppend_ref, mExtend_ref, mInsert_ref, mSetdefault_ref, tyL_ref, tyC_ref, tyL_rol, tyS_str, true_and, and_true, iAt_rol, iAt_tup, iAt_ref, partAt_int, truAt_bl, truAt_ref, rngAt_int, isAt_int, isAt_bl, isAt_tup, isAt_ref, List.map_cons, List.map_nil, List.cons_append, List.nil_append, List.getElem?_cons_zero, List.getElem?_cons_succ, List.set_cons_zero, List.set_cons_succ, List.length_cons, List.length_nil, List.replicate, if_true, if_false, Bool.not_true, Bool.not_false, Bool.false_eq_true, seq_asg, seq_expr, List.isEmpty_nil]
      exact hN _ _ ⟨⟨_, _, rfl⟩, g1, g2⟩
    have hpos : 0 < L.length := List.length_pos_iff.mpr hne
    obtain ⟨m, hm⟩ : ∃ m, minL L = some m := by
      cases L with
      | nil => exact absurd rfl hne
      | cons a r => exact ⟨_, rfl⟩
    have hmem := minL_mem hm
    have hi : L.idxOf m < L.length := List.idxOf_lt_length_iff.mpr hmem
    have he : (!(L.map tI).isEmpty) = true := by cases L with
      | nil => exact absurd rfl hne
      | cons a r => rfl
    rw [he]
    simp only [dFz, start2, ends, dTru_at, dBin, dUn, dVar, dCB, dMt, dCons, dNil, dRet, dRetN, dExpr, dAsg, gName, dC, dNext, dTup, dLst, dDic, dIsi_at, dAnd, dOr, dNot, dAndV_at, dOrV_at, dNotV_at, dSl, dPart_at, dNoPart, iSeq_at, iRng1_at, dCall, dComp, rAdd_int, rAdd_tup, rAdd_ref, rAdd_rol, rSub_int, rMul_int, rMod_int, rFdiv_int, rNeg_int, rLt_int, rLe_int, rGt_int, rGe_int, rIx_ref, rIx_tupM, rIx_rolM, rSl_tup, rSl_rol, rSl_ref, cLen_rol, cLen_tup, cLen_ref, cList_ref, mAppend_ref, mExtend_ref, mInsert_ref, mSetdefault_ref, tyL_ref, tyC_ref, tyL_rol, tyS_str, true_and, and_true, iAt_rol, iAt_tup, iAt_ref, partAt_int, truAt_bl, truAt_ref, rngAt_int, isAt_int, isAt_bl, isAt_tup, isAt_ref, List.map_cons, List.map_nil, List.cons_append, List.nil_append, List.getElem?_cons_zero, List.getElem?_cons_succ, List.set_cons_zero, List.set_cons_succ, List.length_cons, List.length_nil, List.replicate, if_true, if_false, Bool.not_true, Bool.not_false, Bool.false_eq_true, seq_asg, seq_expr]
    refine seq_by (fun τ G' => (∃ b, τ = [some (.rol (ns.map D.int)), some (.rol (L.map tI)), some (.ref h), some (.ref p), some (.int (L.idxOf m : Int)), b]) ∧ G2 = G') ?_ ?_
    · intro N2 hN2
      simp only [dFz, start2, ends, dTru_at, dBin, dUn, dVar, dCB, dMt, dCons, dNil, dRet, dRetN, dExpr, dAsg, gName, dC, dNext, dTup, dLst, dDic, dIsi_at, dAnd, dOr, dNot, dAndV_at, dOrV_at, dNotV_at, dSl, dPart_at, dNoPart, iSeq_at, iRng1_at, dCall, dComp, rAdd_int, rAdd_tup, rAdd_ref, rAdd_rol, rSub_int, rMul_int, rMod_int, rFdiv_int, rNeg_int, rLt_int, rLe_int, rGt_int, rGe_int, rIx_ref, rIx_tupM, rIx_rolM, rSl_tup, rSl_rol, rSl_ref, cLen_rol, cLen_tup, cLen_ref, cList_ref, mAppend_ref, mExtend_ref, mInsert_ref, mSetdefault_ref, tyL_ref, tyC_ref, tyL_rol, tyS_str, true_and, and_true, iAt_rol, iAt_tup, iAt_ref, partAt_int, truAt_bl, truAt_ref, rngAt_int, isAt_int, isAt_bl, isAt_tup, isAt_ref, List.map_cons, List.map_nil, List.cons_append, List.nil_append, List.getElem?_cons_zero, List.getElem?_cons_succ, List.set_cons_zero, List.set_cons_succ, List.length_cons, List.length_nil, List.replicate, if_true, if_false, Bool.not_true, Bool.not_false, Bool.false_eq_true, seq_asg, seq_expr, dFor]
      refine ⟨by rw [List.length_map]; omega, by rw [List.length_map]; omega, ?_⟩
      rw [Int.toNat_natCast, List.length_map]
      refine for_by (fun pre τ G' => G2 = G' ∧ ∃ (l : Nat) (b : Option D), τ = [some (.rol (ns.map D.int)), some (.rol (L.map tI)), some (.ref h), some (.ref p), some (.int (l : Int)), b] ∧ ∃ hl : l < L.length, ∀ j (hj : j < L.length), j < pre.length → lexLt (L[j].take 2) (L[l].take 2) = false)
        ⟨rfl, 0, none, rfl, hpos, by simp⟩ (fun _ _ _ _ => trivial) ?_ ?_
      · rintro pre d post τ G3 N3 e ⟨rfl, l, b, rfl, hl, hj⟩ hN3
        obtain ⟨rfl, hk⟩ := rangeD_mem e
        have a1 : atI (L.map tI) (pre.length : Int) = some (tI L[pre.length]) := by rw [atI_nat _ (by omega) (by rw [List.length_map]; omega)]; simp
        have a2 : atI (L.map tI) (l : Int) = some (tI L[l]) := by rw [atI_nat _ (by omega) (by rw [List.length_map]; omega)]; simp
        obtain ⟨x1, y1, z1, e1⟩ := good.three _ (List.getElem_mem hk)
        obtain ⟨x2, y2, z2, e2⟩ := good.three _ (List.getElem_mem hl)
        simp only [dFz, start2, ends, dSeq, dIfS, dTru_at, dBin, dUn, dVar, dCB, dMt, dCons, dNil, dRet, dRetN, dExpr, dAsg, gName, dC, dNext, dTup, dLst, dDic, dIsi_at, dAnd, dOr, dNot, dAndV_at, dOrV_at, dNotV_at, dIf, dSl, dPart_at, dNoPart, dFor, iSeq_at, iRng1_at, dCall, dComp, rAdd_int, rAdd_tup, rAdd_ref, rAdd_rol, rSub_int, rMul_int, rMod_int, rFdiv_int, rNeg_int, rLt_int, rLe_int, rGt_int, rGe_int, rIx_ref, rIx_tupM, rIx_rolM, rSl_tup, rSl_rol, rSl_ref, cLen_rol, cLen_tup, cLen_ref, cList_ref, mAppend_ref, mExtend_ref, mInsert_ref, mSetdefault_ref, tyL_ref, tyC_ref, tyL_rol, tyS_str, true_and, and_true, iAt_rol, iAt_tup, iAt_ref, partAt_int, truAt_bl, truAt_ref, rngAt_int, isAt_int, isAt_bl, isAt_tup, isAt_ref, List.map_cons, List.map_nil, List.cons_append, List.nil_append, List.getElem?_cons_zero, List.getElem?_cons_succ, List.set_cons_zero, List.set_cons_succ, List.length_cons, List.length_nil, List.replicate, if_true, if_false, Bool.not_true, Bool.not_false, Bool.false_eq_true, a1, a2, e1, e2]
        refine ⟨by decide, by decide, [x1, y1], [x2, y2], rfl, rfl, ?_⟩
        simp only [dFz, start2, ends, dSeq, dIfS, dTru_at, dBin, dUn, dVar, dCB, dMt, dCons, dNil, dRet, dRetN, dExpr, dAsg, gName, dC, dNext, dTup, dLst, dDic, dIsi_at, dAnd, dOr, dNot, dAndV_at, dOrV_at, dNotV_at, dIf, dSl, dPart_at, dNoPart, dFor, iSeq_at, iRng1_at, dCall, dComp, rAdd_int, rAdd_tup, rAdd_ref, rAdd_rol, rSub_int, rMul_int, rMod_int, rFdiv_int, rNeg_int, rLt_int, rLe_int, rGt_int, rGe_int, rIx_ref, rIx_tupM, rIx_rolM, rSl_tup, rSl_rol, rSl_ref, cLen_rol, cLen_tup, cLen_ref, cList_ref, mAppend_ref, mExtend_ref, mInsert_ref, mSetdefault_ref, tyL_ref, tyC_ref, tyL_rol, tyS_str, true_and, and_true, iAt_rol, iAt_tup, iAt_ref, partAt_int, truAt_bl, truAt_ref, rngAt_int, isAt_int, isAt_bl, isAt_tup, isAt_ref, List.map_cons, List.map_nil, List.cons_append, List.nil_append, List.getElem?_cons_zero, List.getElem?_cons_succ, List.set_cons_zero, List.set_cons_succ, List.length_cons, List.length_nil, List.replicate, if_true, if_false, Bool.not_true, Bool.not_false, Bool.false_eq_true]
        have step : ∀ l' (hl' : l' < L.length), (∀ j (hj : j < L.length), j < pre.length → lexLt (L[j].take 2) (L[l'].take 2) = false) → lexLt (L[pre.length].take 2) (L[l'].take 2) = false → ∀ j (hj : j < L.length), j < (pre ++ [D.int (pre.length : Int)]).length → lexLt (L[j].take 2) (L[l'].take 2) = false := by
          intro l' hl' h1 h2 j hj hjp
          rw [List.length_append, List.length_singleton] at hjp
          by_cases ej : j = pre.length
          · subst ej; exact h2
          · exact h1 j hj (by omega)
        cases c : lexLt [x1, y1] [x2, y2] with
        | true =>
          simp only [if_true]
          refine hN3 _ _ ⟨rfl, pre.length, _, rfl, hk, step _ hk (fun j hj' hjp => ?_) (lexLt_irrefl _)⟩
          have old := hj j hj' hjp
          rw [e2] at old
          rw [e1]
          change lexLt _ [x2, y2] = false at old
          cases q : lexLt (L[j].take 2) [x1, y1] with
          | false => exact q
          | true => rw [lexLt_trans _ _ _ q c] at old; cases old
        | false =>
          simp only [Bool.false_eq_true, if_false]
          exact hN3 _ _ ⟨rfl, l, _, rfl, hl, step l hl hj (by rw [e1, e2]; exact c)⟩
      · rintro τ G3 ⟨rfl, l, b, rfl, hl, hj⟩
        have : l = L.idxOf m := least_is good hm hl fun j hj' => hj j hj' (by simp [rangeD]; omega)
        subst this
        exact hN2 _ _ ⟨⟨_, rfl⟩, rfl⟩
    · rintro _ _ ⟨⟨b, rfl⟩, rfl⟩
      simp only [dFz, start2, ends, dTru_at, dBin, dUn, dVar, dCB, dMt, dCons, dNil, dRet, dRetN, dExpr, dAsg, gName, dC, dNext, dTup, dLst, dDic, dIsi_at, dAnd, dOr, dNot, dAndV_at, dOrV_at, dNotV_at, dSl, dPart_at, dNoPart, iSeq_at, iRng1_at, dCall, dComp, rAdd_int, rAdd_tup, rAdd_ref, rAdd_rol, rSub_int, rMul_int, rMod_int, rFdiv_int, rNeg_int, rLt_int, rLe_int, rGt_int, rGe_int, rIx_ref, rIx_tupM, rIx_rolM, rSl_tup, rSl_rol, rSl_ref, cLen_rol, cLen_tup, cLen_ref, cList_ref, mAppend_ref, mExtend_ref, mInsert_ref, mSetdefault_ref, tyL_ref, tyC_ref, tyL_rol, tyS_str, true_and, and_true, iAt_rol, iAt_tup, iAt_ref, partAt_int, truAt_bl, truAt_ref, rngAt_int, isAt_int, isAt_bl, isAt_tup, isAt_ref, List.map_cons, List.map_nil, List.cons_append, List.nil_append, List.getElem?_cons_zero, List.getElem?_cons_succ, List.set_cons_zero, List.set_cons_succ, List.length_cons, List.length_nil, List.replicate, if_true, if_false, Bool.not_true, Bool.not_false, Bool.false_eq_true, seq_asg, seq_expr, dFor]
      refine ⟨by rw [List.length_map]; omega, by rw [List.length_map]; omega, ?_⟩
      rw [Int.toNat_natCast, List.length_map]
      refine for_by (fun pre τ G' => G2 = G' ∧ ∃ (b : Option D), τ = [some (.rol (ns.map D.int)), some (.rol (L.map tI)), some (.ref h), some (.ref p), some (.int (L.idxOf m : Int)), b]) ⟨rfl, _, rfl⟩ (fun _ _ _ _ => trivial) ?_ ?_
      · rintro pre d post τ G3 N3 e ⟨rfl, b, rfl⟩ hN3
        obtain ⟨rfl, hk⟩ := rangeD_mem e
        have hml : (L.idxOf m + pre.length) % L.length < L.length := Nat.mod_lt _ hpos
        have a1 : atI ((seat L).map tI) (pre.length : Int) = some (tI (L[(L.idxOf m + pre.length) % L.length])) := by
          rw [atI_nat _ (by omega) (by rw [List.length_map, seat_len]; omega)]
          simp only [List.getElem_map, Int.toNat_natCast]
          have := turn_at L (L.idxOf m) pre.length hi hk
          rw [List.getElem?_eq_getElem hml] at this
          have es : seat L = L.drop (L.idxOf m) ++ L.take (L.idxOf m) := by unfold seat; rw [hm]
          rw [← es, List.getElem?_eq_getElem (by rw [seat_len]; omega)] at this
          injection this with this
          rw [this]
        have a2 : atI (L.map tI) (((L.idxOf m : Int) + (pre.length : Int)) % (L.length : Int)) = some (tI (L[(L.idxOf m + pre.length) % L.length])) := by
          have : ((L.idxOf m : Int) + (pre.length : Int)) % (L.length : Int) = (((L.idxOf m + pre.length) % L.length : Nat) : Int) := by rw [Int.natCast_emod, Int.natCast_add]
          rw [this, atI_nat _ (Int.natCast_nonneg _) (by rw [List.length_map]; exact Int.ofNat_lt.mpr hml)]
          simp only [List.getElem_map, Int.toNat_natCast]
        simp only [dFz, start2, ends, dSeq, dIfS, dTru_at, dBin, dUn, dVar, dCB, dMt, dCons, dNil, dRet, dRetN, dExpr, dAsg, gName, dC, dNext, dTup, dLst, dDic, dIsi_at, dAnd, dOr, dNot, dAndV_at, dOrV_at, dNotV_at, dIf, dSl, dPart_at, dNoPart, dFor, iSeq_at, iRng1_at, dCall, dComp, rAdd_int, rAdd_tup, rAdd_ref, rAdd_rol, rSub_int, rMul_int, rMod_int, rFdiv_int, rNeg_int, rLt_int, rLe_int, rGt_int, rGe_int, rIx_ref, rIx_tupM, rIx_rolM, rSl_tup, rSl_rol, rSl_ref, cLen_rol, cLen_tup, cLen_ref, cList_ref, mAppend_ref, mExtend_ref, mInsert_ref, mSetdefault_ref, tyL_ref, tyC_ref, tyL_rol, tyS_str, true_and, and_true, iAt_rol, iAt_tup, iAt_ref, partAt_int, truAt_bl, truAt_ref, rngAt_int, isAt_int, isAt_bl, isAt_tup, isAt_ref, List.map_cons, List.map_nil, List.cons_append, List.nil_append, List.getElem?_cons_zero, List.getElem?_cons_succ, List.set_cons_zero, List.set_cons_succ, List.length_cons, List.length_nil, List.replicate, if_true, if_false, Bool.not_true, Bool.not_false, Bool.false_eq_true, g1, a1, a2, List.length_map]
        refine ⟨by omega, _, _, Sn.tI _, Sn.tI _, ?_⟩
        simp only [dFz, start2, ends, dSeq, dIfS, dTru_at, dBin, dUn, dVar, dCB, dMt, dCons, dNil, dRet, dRetN, dExpr, dAsg, gName, dC, dNext, dTup, dLst, dDic, dIsi_at, dAnd, dOr, dNot, dAndV_at, dOrV_at, dNotV_at, dIf, dSl, dPart_at, dNoPart, dFor, iSeq_at, iRng1_at, dCall, dComp, rAdd_int, rAdd_tup, rAdd_ref, rAdd_rol, rSub_int, rMul_int, rMod_int, rFdiv_int, rNeg_int, rLt_int, rLe_int, rGt_int, rGe_int, rIx_ref, rIx_tupM, rIx_rolM, rSl_tup, rSl_rol, rSl_ref, cLen_rol, cLen_tup, cLen_ref, cList_ref, mAppend_ref, mExtend_ref, mInsert_ref, mSetdefault_ref, tyL_ref, tyC_ref, tyL_rol, tyS_str, true_and, and_true, iAt_rol, iAt_tup, iAt_ref, partAt_int, truAt_bl, truAt_ref, rngAt_int, isAt_int, isAt_bl, isAt_tup, isAt_ref, List.map_cons, List.map_nil, List.cons_append, List.nil_append, List.getElem?_cons_zero, List.getElem?_cons_succ, List.set_cons_zero, List.set_cons_succ, List.length_cons, List.length_nil, List.replicate, if_true, if_false, Bool.not_true, Bool.not_false, Bool.false_eq_true, eqD, eqDs_ints, decide_true]
        exact hN3 _ _ ⟨rfl, _, rfl⟩
      · rintro τ G3 ⟨rfl, b, rfl⟩
        exact hN _ _ ⟨⟨_, _, rfl⟩, g1, g2⟩
  rintro _ G3 ⟨⟨a, b, rfl⟩, g1, g2⟩
  simp only [dFz, start2, ends, dTru_at, dBin, dUn, dVar, dCB, dMt, dCons, dNil, dRet, dRetN, dExpr, dAsg, gName, dC, dNext, dTup, dLst, dDic, dIsi_at, dAnd, dOr, dNot, dAndV_at, dOrV_at, dNotV_at, dSl, dPart_at, dNoPart, iSeq_at, iRng1_at, dCall, dComp, rAdd_int, rAdd_tup, rAdd_ref, rAdd_rol, rSub_int, rMul_int, rMod_int, rFdiv_int, rNeg_int, rLt_int, rLe_int, rGt_int, rGe_int, rIx_ref, rIx_tupM, rIx_rolM, rSl_tup, rSl_rol, rSl_ref, cLen_rol, cLen_tup, cLen_ref, cList_ref, mAppend_ref, mExtend_ref, mInsert_ref, mSetdefault_ref, tyL_ref, tyC_ref, tyL_rol, tyS_str, true_and, and_true, iAt_rol, iAt_tup, iAt_ref, partAt_int, truAt_bl, truAt_ref, rngAt_int, isAt_int, isAt_bl, isAt_tup, isAt_ref, List.map_cons, List.map_nil, List.cons_append, List.nil_append, List.getElem?_cons_zero, List.getElem?_cons_succ, List.set_cons_zero, List.set_cons_succ, List.length_cons, List.length_nil, List.replicate, if_true, if_false, Bool.not_true, Bool.not_false, Bool.false_eq_true, seq_asg, seq_expr, g1]
  refine ⟨by decide, by rw [List.length_map, seat_len]; show _ < 16777216; omega, ?_⟩
  refine ⟨_, _, Sn.lst (by rw [updG_ne hph]; exact g2), Sn.rT L, ?_⟩
  simp only [dFz, start2, ends, dTru_at, dBin, dUn, dVar, dCB, dMt, dCons, dNil, dRet, dRetN, dExpr, dAsg, gName, dC, dNext, dTup, dLst, dDic, dIsi_at, dAnd, dOr, dNot, dAndV_at, dOrV_at, dNotV_at, dSl, dPart_at, dNoPart, iSeq_at, iRng1_at, dCall, dComp, rAdd_int, rAdd_tup, rAdd_ref, rAdd_rol, rSub_int, rMul_int, rMod_int, rFdiv_int, rNeg_int, rLt_int, rLe_int, rGt_int, rGe_int, rIx_ref, rIx_tupM, rIx_rolM, rSl_tup, rSl_rol, rSl_ref, cLen_rol, cLen_tup, cLen_ref, cList_ref, mAppend_ref, mExtend_ref, mInsert_ref, mSetdefault_ref, tyL_ref, tyC_ref, tyL_rol, tyS_str, true_and, and_true, iAt_rol, iAt_tup, iAt_ref, partAt_int, truAt_bl, truAt_ref, rngAt_int, isAt_int, isAt_bl, isAt_tup, isAt_ref, List.map_cons, List.map_nil, List.cons_append, List.nil_append, List.getElem?_cons_zero, List.getElem?_cons_succ, List.set_cons_zero, List.set_cons_succ, List.length_cons, List.length_nil, List.replicate, if_true, if_false, Bool.not_true, Bool.not_false, Bool.false_eq_true, seq_asg, seq_expr, eqD, eqDs_tIs, decide_true]
  exact fz_id (q _)
end K01
end K2

end
section
namespace Fin
open PySem PySem.Spec PyProof.Rows L2 K2 K2.K01
def top (i : Nat) : Stmt := PySem.Challenge.pw_knotwise_k01_a_row_seated.main.body.getD i (.Pass ⟨0, 0, 0, 0⟩)
section
variable {P : Program} {w : World} {K : PySem.W.Frag} {mg : Str → Option Value} {base : Heap}
theorem sc_law_cell : FnScope ["_law_script", "_law_k"] ["_law_script", "_law_k"] (defScope (top 3)) := ⟨rfl, rfl, rfl, by decide +kernel, rfl, by decide +kernel, by decide +kernel⟩
theorem fn_law_cell {f : Addr} {fd : FuncData} (F : Fun K "_law_cell" "_law_cell" (top 3) f fd) (no_len : mg "len" = none) : FnOk P w K mg base CX0 1 f fd ["_law_script", "_law_k"] (spOf K sp_law_cell) :=
  fun_ok2 F sc_law_cell (fun ds G Q E h => by iterate 12 (first | done | (obtain ⟨e, _⟩ := h; (subst e); rfl) | (obtain ⟨_, h⟩ := h))) OK_law_cell fun cdv A outer s H E hr => by
    have nd := sc_law_cell.nd
    have hu := hr.units
    have hu0 := hr.units0
    exact (pss2_cons (ps2_if (pt2_cmp (op2_lt hu0) (pv2 1) (pe2_callB call2_len rfl no_len bt_len (pa2_cons (pv2 0) pa2_nil)) (nomark _)) (pss2_one (ps2_ret (pe2_fz (pe2_ix hu (pv2 0) (pv2 1) (fun _ _ => rfl))))) pss2_nil)
  (pss2_one (ps2_ret (pe2_fz pe2_int))))
theorem sc_law_row : FnScope ["_law_script", "_law_many", "_law_row_here", "_law_hands", "_law_cell_here", "_law_name", "_law_way", "_law_hand"] ["_law_script"] (defScope (top 6)) := ⟨rfl, rfl, rfl, by decide +kernel, rfl, by decide +kernel, by decide +kernel⟩
theorem fn_law_row {f : Addr} {fd : FuncData} (F : Fun K "_law_row" "_law_row" (top 6) f fd) {f_law_cell : Addr} {d_law_cell : FuncData} (ok_law_cell : FnOk P w K mg base CX0 1 f_law_cell d_law_cell ["_law_script", "_law_k"] (spOf K sp_law_cell)) (mg_law_cell : mg "_law_cell" = some (.ref f_law_cell)) (kp_law_cell : PySem.W.keepIn K (.ref f_law_cell) = true) (bi_law_cell : Binds K d_law_cell ["_law_script", "_law_k"] []) : FnOk P w K mg base CX0 2 f fd ["_law_script"] (spOf K sp_law_row) :=
  fun_ok2 F sc_law_row (fun ds G Q E h => by iterate 12 (first | done | (obtain ⟨e, _⟩ := h; (subst e); rfl) | (obtain ⟨_, h⟩ := h))) OK_law_row fun cdv A outer s H E hr => by
    have nd := sc_law_row.nd
    have hu := hr.units
    have hu0 := hr.units0
    exact (pss2_cons (ps2_set (i := 1) nd rfl (Or.inl rfl) pe2_int)
  (pss2_cons (ps2_if (pt2_cmp (op2_eq hu) (pe2_op op2_mod (pe2_callS ok_law_cell (hr.mono (by decide)) rfl mg_law_cell kp_law_cell bi_law_cell (pa2_cons (pv2 0) (pa2_cons pe2_int pa2_nil))) pe2_int) pe2_int (nomark _)) (pss2_one (ps2_set (i := 1) nd rfl (Or.inl rfl) pe2_int)) pss2_nil)
  (pss2_cons (ps2_set (i := 2) nd rfl (Or.inl rfl) (pe2_lst pa2_nil))
  (pss2_cons (ps2_set (i := 3) nd rfl (Or.inl rfl) pe2_dic)
  (pss2_cons (ps2_for PassesOwn.never rfl (pi2_seq (pe2_slice (pv2 0) (po2_some pe2_int) (po2_some pe2_int))) (pg2_name (i := 4) nd rfl (Or.inl rfl)) (pss2_cons (ps2_set (i := 5) nd rfl (Or.inl rfl) (pe2_op op2_add pe2_int (pe2_op op2_mod (pe2_op op2_mod (pe2_op op2_mul (pv2 4) pe2_int) pe2_int) (pv2 1))))
  (pss2_cons (ps2_set (i := 6) nd rfl (Or.inl rfl) (pe2_op op2_mod (pe2_op op2_fdiv (pv2 4) pe2_int) pe2_int))
  (pss2_cons (ps2_set (i := 7) nd rfl (Or.inl rfl) (pe2_bm PySem.F.plainAttrs_dict PySem.F.slot_dict_setdefault PySem.F.type_dict_setdefault ty2_dict mt2_setdefault (pv2 3) (pa2_cons (pv2 5) (pa2_cons (pe2_op op2_sub pe2_int (pe2_op op2_mul pe2_int (pe2_op op2_mod (pe2_op op2_fdiv (pv2 4) pe2_int) pe2_int))) pa2_nil))))
  (pss2_one (ps2_if (pt2_cmp (op2_notin hu) (pe2_tup (pa2_cons (pv2 5) (pa2_cons (pv2 6) (pa2_cons (pv2 7) pa2_nil)))) (pv2 2) (by with_unfolding_all rfl)) (pss2_one (ps2_expr (pe2_bm PySem.F.plainAttrs_list PySem.F.slot_list_append PySem.F.type_list_append ty2_list mt2_append (pv2 2) (pa2_cons (pe2_tup (pa2_cons (pv2 5) (pa2_cons (pv2 6) (pa2_cons (pv2 7) pa2_nil)))) pa2_nil)))) pss2_nil))))))
  (pss2_one (ps2_ret (pe2_fz (pv2 2)))))))))
theorem sc_seated : FnScope ["row", "start"] ["row"] (defScope (top 1)) := ⟨rfl, rfl, rfl, by decide +kernel, rfl, by decide +kernel, by decide +kernel⟩
theorem fn_seated {f : Addr} {fd : FuncData} (F : Fun K "seated" "seated" (top 1) f fd) (no_min : mg "min" = none) : FnOk P w K mg base CX0 1 f fd ["row"] (spOf K sp_seated) :=
  fun_ok2 F sc_seated (fun ds G Q E h => by iterate 12 (first | done | (obtain ⟨e, _⟩ := h; (subst e); rfl) | (obtain ⟨_, h⟩ := h))) OK_seated fun cdv A outer s H E hr => by
    have nd := sc_seated.nd
    have hu := hr.units
    have hu0 := hr.units0
    exact (pss2_cons (ps2_if (pt2_not (pt2_truth (pv2 0))) (pss2_one (ps2_ret (pe2_fz (pe2_lst pa2_nil)))) pss2_nil)
  (pss2_cons (ps2_set (i := 1) nd rfl (Or.inl rfl) (pe2_bm PySem.F.plainAttrs_list PySem.F.slot_list_index PySem.F.type_list_index ty2_list (mt2_index hu) (pv2 0) (pa2_cons (pe2_callB (call2_min rfl hu) rfl no_min bt_min (pa2_cons (pv2 0) pa2_nil)) pa2_nil)))
  (pss2_one (ps2_ret (pe2_fz (pe2_op op2_add (pe2_slice (pv2 0) (po2_some (pv2 1)) po2_none) (pe2_slice (pv2 0) po2_none (po2_some (pv2 1)))))))))
theorem sc_law_whole : FnScope ["_law_found"] ["_law_found"] (defScope (top 4)) := ⟨rfl, rfl, rfl, by decide +kernel, rfl, by decide +kernel, by decide +kernel⟩
theorem fn_law_whole {f : Addr} {fd : FuncData} (F : Fun K "_law_whole" "_law_whole" (top 4) f fd) (no_bool : mg "bool" = none) (no_int : mg "int" = none) (no_isinstance : mg "isinstance" = none) : FnOk P w K mg base CX0 1 f fd ["_law_found"] (spOf K sp_law_whole) :=
  fun_ok2 F sc_law_whole (fun ds G Q E h => by iterate 12 (first | done | (obtain ⟨e, _⟩ := h; (subst e); rfl) | (obtain ⟨_, h⟩ := h))) OK_law_whole fun cdv A outer s H E hr => by
    have nd := sc_law_whole.nd
    have hu := hr.units
    have hu0 := hr.units0
    exact (pss2_one (ps2_ret (pe2_fz (pe2_and (pe2_isi "int" (by decide) rfl no_isinstance rfl no_int bt_int (pv2 0)) (pe2_one (pe2_not (pe2_isi "bool" (by decide) rfl no_isinstance rfl no_bool bt_bool (pv2 0))))))))
theorem sc_law_rows_of_passings : FnScope ["_law_found", "_law_row_here", "_law_passing"] ["_law_found"] (defScope (top 5)) := ⟨rfl, rfl, rfl, by decide +kernel, rfl, by decide +kernel, by decide +kernel⟩
theorem fn_law_rows_of_passings {f : Addr} {fd : FuncData} (F : Fun K "_law_rows_of_passings" "_law_rows_of_passings" (top 5) f fd) (no_all : mg "all" = none) (no_isinstance : mg "isinstance" = none) (no_len : mg "len" = none) (no_list : mg "list" = none) (no_tuple : mg "tuple" = none) {f_law_whole : Addr} {d_law_whole : FuncData} (ok_law_whole : FnOk P w K mg base CX0 1 f_law_whole d_law_whole ["_law_found"] (spOf K sp_law_whole)) (mg_law_whole : mg "_law_whole" = some (.ref f_law_whole)) (kp_law_whole : PySem.W.keepIn K (.ref f_law_whole) = true) (bi_law_whole : Binds K d_law_whole ["_law_found"] []) : FnOk P w K mg base CX0 2 f fd ["_law_found"] (spOf K sp_law_rows_of_passings) :=
  fun_ok2 F sc_law_rows_of_passings (fun ds G Q E h => by iterate 12 (first | done | (obtain ⟨e, _⟩ := h; (subst e); rfl) | (obtain ⟨_, h⟩ := h))) OK_law_rows_of_passings fun cdv A outer s H E hr => by
    have nd := sc_law_rows_of_passings.nd
    have hu := hr.units
    have hu0 := hr.units0
    exact (pss2_cons (ps2_if (pt2_not (pt2_truth (pe2_isi "list" (by decide) rfl no_isinstance rfl no_list bt_list (pv2 0)))) (pss2_one (ps2_ret (pe2_fz pe2_bl))) pss2_nil)
  (pss2_cons (ps2_for PassesOwn.never rfl (pi2_seq (pv2 0)) (pg2_name (i := 1) nd rfl (Or.inl rfl)) (pss2_cons (ps2_if (pt2_not (pt2_truth (pe2_isi "list" (by decide) rfl no_isinstance rfl no_list bt_list (pv2 1)))) (pss2_one (ps2_ret (pe2_fz pe2_bl))) pss2_nil)
  (pss2_one (ps2_for PassesOwn.never rfl (pi2_seq (pv2 1)) (pg2_name (i := 2) nd rfl (Or.inl rfl)) (pss2_cons (ps2_if (PW2.pt (pw2_or (pt2_not (pt2_truth (pe2_isi "tuple" (by decide) rfl no_isinstance rfl no_tuple bt_tuple (pv2 2)))) (pw2_or1 (pt2_cmp (op2_ne hu) (pe2_callB call2_len rfl no_len bt_len (pa2_cons (pv2 2) pa2_nil)) pe2_int (nomark _))))) (pss2_one (ps2_ret (pe2_fz pe2_bl))) pss2_nil)
  (pss2_one (ps2_if (pt2_not (pt2_truth (pe2_callB (call2_all rfl) rfl no_all bt_all (pa2_cons (pe2_comp ["_law_number"] (sc := defScope (top 5)) (XN := ["_law_found", "_law_row_here", "_law_passing"]) (pi2_seq (pv2 2)) (fun _ _ _ _ => (pg2_name (i := 0) (show (["_law_number"] : List Str).Nodup by decide +kernel) rfl (Or.inl rfl))) (fun _ _ _ _ => .none) (fun _ _ _ _ => (pe2_callS ok_law_whole (hr.mono (by decide)) rfl mg_law_whole kp_law_whole bi_law_whole (pa2_cons (pv2 0) pa2_nil)))) pa2_nil)))) (pss2_one (ps2_ret (pe2_fz pe2_bl))) pss2_nil)))))))
  (pss2_one (ps2_ret (pe2_fz pe2_bl)))))
theorem sc_law : FnScope ["_law_script", "_law_row_here", "_law_handed", "_law_found", "_law_least", "_law_k"] ["_law_script"] (defScope (top 7)) := ⟨rfl, rfl, rfl, by decide +kernel, rfl, by decide +kernel, by decide +kernel⟩
theorem fn_law {f : Addr} {fd : FuncData} (F : Fun K "law" "law" (top 7) f fd) (no_len : mg "len" = none) (no_list : mg "list" = none) (no_range : mg "range" = none) {f_law_row : Addr} {d_law_row : FuncData} (ok_law_row : FnOk P w K mg base CX0 2 f_law_row d_law_row ["_law_script"] (spOf K sp_law_row)) (mg_law_row : mg "_law_row" = some (.ref f_law_row)) (kp_law_row : PySem.W.keepIn K (.ref f_law_row) = true) (bi_law_row : Binds K d_law_row ["_law_script"] []) {f_seated : Addr} {d_seated : FuncData} (ok_seated : FnOk P w K mg base CX0 1 f_seated d_seated ["row"] (spOf K sp_seated)) (mg_seated : mg "seated" = some (.ref f_seated)) (kp_seated : PySem.W.keepIn K (.ref f_seated) = true) (bi_seated : Binds K d_seated ["row"] []) {f_law_rows_of_passings : Addr} {d_law_rows_of_passings : FuncData} (ok_law_rows_of_passings : FnOk P w K mg base CX0 2 f_law_rows_of_passings d_law_rows_of_passings ["_law_found"] (spOf K sp_law_rows_of_passings)) (mg_law_rows_of_passings : mg "_law_rows_of_passings" = some (.ref f_law_rows_of_passings)) (kp_law_rows_of_passings : PySem.W.keepIn K (.ref f_law_rows_of_passings) = true) (bi_law_rows_of_passings : Binds K d_law_rows_of_passings ["_law_found"] []) : FnOk P w K mg base CX0 3 f fd ["_law_script"] (spOf K K2.spLaw) :=
  fun_ok2 F sc_law (fun ds G Q E h => by iterate 12 (first | done | (obtain ⟨e, _⟩ := h; (subst e); rfl) | (obtain ⟨_, h⟩ := h))) OK_law fun cdv A outer s H E hr => by
    have nd := sc_law.nd
    have hu := hr.units
    have hu0 := hr.units0
    exact (pss2_cons (ps2_set (i := 1) nd rfl (Or.inl rfl) (pe2_callS ok_law_row (hr.mono (by decide)) rfl mg_law_row kp_law_row bi_law_row (pa2_cons (pv2 0) pa2_nil)))
  (pss2_cons (ps2_set (i := 2) nd rfl (Or.inl rfl) (pe2_callTy call2_list rfl no_list bt_list (pa2_cons (pv2 1) pa2_nil)))
  (pss2_cons (ps2_set (i := 3) nd rfl (Or.inl rfl) (pe2_callS ok_seated (hr.mono (by decide)) rfl mg_seated kp_seated bi_seated (pa2_cons (pv2 2) pa2_nil)))
  (pss2_cons (ps2_if (PW2.pt (pw2_or (pt2_not (pt2_truth (pe2_callS ok_law_rows_of_passings (hr.mono (by decide)) rfl mg_law_rows_of_passings kp_law_rows_of_passings bi_law_rows_of_passings (pa2_cons (pe2_lst (pa2_cons (pv2 3) pa2_nil)) pa2_nil)))) (pw2_or (pt2_cmp (op2_ne hu) (pv2 2) (pv2 1) (nomark _)) (pw2_or1 (pt2_cmp (op2_ne hu) (pe2_callB call2_len rfl no_len bt_len (pa2_cons (pv2 3) pa2_nil)) (pe2_callB call2_len rfl no_len bt_len (pa2_cons (pv2 1) pa2_nil)) (nomark _)))))) (pss2_one (ps2_ret (pe2_fz pe2_bl))) pss2_nil)
  (pss2_cons (ps2_if (pt2_truth (pv2 1)) (pss2_cons (ps2_set (i := 4) nd rfl (Or.inl rfl) pe2_int)
  (pss2_cons (ps2_for PassesOwn.never rfl (pi2_range1 rfl no_range (pe2_callB call2_len rfl no_len bt_len (pa2_cons (pv2 1) pa2_nil))) (pg2_name (i := 5) nd rfl (Or.inl rfl)) (pss2_one (ps2_if (pt2_cmp (op2_lt hu0) (pe2_slice (pe2_ix hu (pv2 1) (pv2 5) (fun _ _ => rfl)) po2_none (po2_some pe2_int)) (pe2_slice (pe2_ix hu (pv2 1) (pv2 4) (fun _ _ => rfl)) po2_none (po2_some pe2_int)) (nomark _)) (pss2_one (ps2_set (i := 4) nd rfl (Or.inl rfl) (pv2 5))) pss2_nil)))
  (pss2_one (ps2_for PassesOwn.never rfl (pi2_range1 rfl no_range (pe2_callB call2_len rfl no_len bt_len (pa2_cons (pv2 1) pa2_nil))) (pg2_name (i := 5) nd rfl (Or.inl rfl)) (pss2_one (ps2_if (pt2_cmp (op2_ne hu) (pe2_ix hu (pv2 3) (pv2 5) (fun _ _ => rfl)) (pe2_ix hu (pv2 1) (pe2_op op2_mod (pe2_op op2_add (pv2 4) (pv2 5)) (pe2_callB call2_len rfl no_len bt_len (pa2_cons (pv2 1) pa2_nil))) (fun _ _ => rfl)) (nomark _)) (pss2_one (ps2_ret (pe2_fz pe2_bl))) pss2_nil)))))) pss2_nil)
  (pss2_cons (ps2_expr (pe2_bm PySem.F.plainAttrs_list PySem.F.slot_list_append PySem.F.type_list_append ty2_list mt2_append (pv2 3) (pa2_cons (pe2_tup (pa2_cons pe2_int (pa2_cons pe2_int (pa2_cons pe2_int pa2_nil)))) pa2_nil)))
  (pss2_one (ps2_ret (pe2_fz (pe2_cmp (op2_eq hu) (pv2 2) (pv2 1) (nomark _)))))))))))
end
theorem all_mk {l : PySem.W.OpenLaw} {w : World} {K : PySem.W.Frag} {h : Heap} {mg : Str → Option Value} {fa : Addr} (X : K.In h) (G : h.Ns mainGlobals mg) (hfa : mg "law" = some (.ref fa))
    {f0 : Addr} {od0 an0 : Option Addr} {sl0 : Array (Option Value)} {oc0 kV0 dc0 pm0 cd0 ct0 : Value} (a0 : PySem.W.nsIn K mainGlobals "_law_cell" = some (some (.ref f0))) (l0 : K.lookup f0 = some ⟨oc0, od0, .func (PySem.W.fnOf "_law_cell" "_law_cell" (defArgs (top 3)) (defBody (top 3)) (defScope (top 3)) .none kV0 dc0 pm0 an0 cd0 ct0), sl0⟩) (c0 : PySem.W.codeIn K cd0 "_law_cell" = true) (k0 : PySem.W.keepIn K (.ref f0) = true)
    {f1 : Addr} {od1 an1 : Option Addr} {sl1 : Array (Option Value)} {oc1 kV1 dc1 pm1 cd1 ct1 : Value} (a1 : PySem.W.nsIn K mainGlobals "_law_row" = some (some (.ref f1))) (l1 : K.lookup f1 = some ⟨oc1, od1, .func (PySem.W.fnOf "_law_row" "_law_row" (defArgs (top 6)) (defBody (top 6)) (defScope (top 6)) .none kV1 dc1 pm1 an1 cd1 ct1), sl1⟩) (c1 : PySem.W.codeIn K cd1 "_law_row" = true) (k1 : PySem.W.keepIn K (.ref f1) = true)
    {f2 : Addr} {od2 an2 : Option Addr} {sl2 : Array (Option Value)} {oc2 kV2 dc2 pm2 cd2 ct2 : Value} (a2 : PySem.W.nsIn K mainGlobals "seated" = some (some (.ref f2))) (l2 : K.lookup f2 = some ⟨oc2, od2, .func (PySem.W.fnOf "seated" "seated" (defArgs (top 1)) (defBody (top 1)) (defScope (top 1)) .none kV2 dc2 pm2 an2 cd2 ct2), sl2⟩) (c2 : PySem.W.codeIn K cd2 "seated" = true) (k2 : PySem.W.keepIn K (.ref f2) = true)
    {f3 : Addr} {od3 an3 : Option Addr} {sl3 : Array (Option Value)} {oc3 kV3 dc3 pm3 cd3 ct3 : Value} (a3 : PySem.W.nsIn K mainGlobals "_law_whole" = some (some (.ref f3))) (l3 : K.lookup f3 = some ⟨oc3, od3, .func (PySem.W.fnOf "_law_whole" "_law_whole" (defArgs (top 4)) (defBody (top 4)) (defScope (top 4)) .none kV3 dc3 pm3 an3 cd3 ct3), sl3⟩) (c3 : PySem.W.codeIn K cd3 "_law_whole" = true) (k3 : PySem.W.keepIn K (.ref f3) = true)
    {f4 : Addr} {od4 an4 : Option Addr} {sl4 : Array (Option Value)} {oc4 kV4 dc4 pm4 cd4 ct4 : Value} (a4 : PySem.W.nsIn K mainGlobals "_law_rows_of_passings" = some (some (.ref f4))) (l4 : K.lookup f4 = some ⟨oc4, od4, .func (PySem.W.fnOf "_law_rows_of_passings" "_law_rows_of_passings" (defArgs (top 5)) (defBody (top 5)) (defScope (top 5)) .none kV4 dc4 pm4 an4 cd4 ct4), sl4⟩) (c4 : PySem.W.codeIn K cd4 "_law_rows_of_passings" = true) (k4 : PySem.W.keepIn K (.ref f4) = true)
    {f5 : Addr} {od5 an5 : Option Addr} {sl5 : Array (Option Value)} {oc5 kV5 dc5 pm5 cd5 ct5 : Value} (a5 : PySem.W.nsIn K mainGlobals "law" = some (some (.ref f5))) (l5 : K.lookup f5 = some ⟨oc5, od5, .func (PySem.W.fnOf "law" "law" (defArgs (top 7)) (defBody (top 7)) (defScope (top 7)) .none kV5 dc5 pm5 an5 cd5 ct5), sl5⟩) (c5 : PySem.W.codeIn K cd5 "law" = true) (k5 : PySem.W.keepIn K (.ref f5) = true)
    (z_len : PySem.W.nsIn K mainGlobals "len" = some none) (z_min : PySem.W.nsIn K mainGlobals "min" = some none) (z_bool : PySem.W.nsIn K mainGlobals "bool" = some none) (z_int : PySem.W.nsIn K mainGlobals "int" = some none) (z_isinstance : PySem.W.nsIn K mainGlobals "isinstance" = some none) (z_all : PySem.W.nsIn K mainGlobals "all" = some none) (z_list : PySem.W.nsIn K mainGlobals "list" = some none) (z_tuple : PySem.W.nsIn K mainGlobals "tuple" = some none) (z_range : PySem.W.nsIn K mainGlobals "range" = some none) :
    ∃ fd : FuncData, (∀ (s : Shared) (v : Value), BindsTo s fd ⟨[v], []⟩ [("_law_script", v)]) ∧ ∀ base : Heap, K.In base → base.Ns mainGlobals mg → FnOk l.prog w K mg base CX0 3 fa fd ["_law_script"] (spOf K K2.spLaw) := by
  have e := hfa.symm.trans (PySem.W.mg_of X G a5)
  cases e
  have F0 := fun_mk (st := top 3) l0 c0 k0
  have b0 := F0.binds (ps := ["_law_script", "_law_k"]) fun _ _ _ _ _ _ us hl => match us, hl with | [_, _], _ => rfl
  have F1 := fun_mk (st := top 6) l1 c1 k1
  have b1 := F1.binds (ps := ["_law_script"]) fun _ _ _ _ _ _ us hl => match us, hl with | [_], _ => rfl
  have F2 := fun_mk (st := top 1) l2 c2 k2
  have b2 := F2.binds (ps := ["row"]) fun _ _ _ _ _ _ us hl => match us, hl with | [_], _ => rfl
  have F3 := fun_mk (st := top 4) l3 c3 k3
  have b3 := F3.binds (ps := ["_law_found"]) fun _ _ _ _ _ _ us hl => match us, hl with | [_], _ => rfl
  have F4 := fun_mk (st := top 5) l4 c4 k4
  have b4 := F4.binds (ps := ["_law_found"]) fun _ _ _ _ _ _ us hl => match us, hl with | [_], _ => rfl
  have F5 := fun_mk (st := top 7) l5 c5 k5
  have no_len := PySem.W.mg_none_of X G z_len
  have no_min := PySem.W.mg_none_of X G z_min
  have no_bool := PySem.W.mg_none_of X G z_bool
  have no_int := PySem.W.mg_none_of X G z_int
  have no_isinstance := PySem.W.mg_none_of X G z_isinstance
  have no_all := PySem.W.mg_none_of X G z_all
  have no_list := PySem.W.mg_none_of X G z_list
  have no_tuple := PySem.W.mg_none_of X G z_tuple
  have no_range := PySem.W.mg_none_of X G z_range
  refine ⟨PySem.W.fnOf "law" "law" (defArgs (top 7)) (defBody (top 7)) (defScope (top 7)) .none kV5 dc5 pm5 an5 cd5 ct5, fun s v => .of_eq rfl, fun base _ _ => ?_⟩
  have ok0 := fn_law_cell (P := l.prog) (w := w) (base := base) F0 no_len
  have ok1 := fn_law_row (P := l.prog) (w := w) (base := base) F1 ok0 (PySem.W.mg_of X G a0) k0 b0
  have ok2 := fn_seated (P := l.prog) (w := w) (base := base) F2 no_min
  have ok3 := fn_law_whole (P := l.prog) (w := w) (base := base) F3 no_bool no_int no_isinstance
  have ok4 := fn_law_rows_of_passings (P := l.prog) (w := w) (base := base) F4 no_all no_isinstance no_len no_list no_tuple ok3 (PySem.W.mg_of X G a3) k3 b3
  exact fn_law F5 no_len no_list no_range ok1 (PySem.W.mg_of X G a1) k1 b1 ok2 (PySem.W.mg_of X G a2) k2 b2 ok4 (PySem.W.mg_of X G a4) k4 b4
end Fin
open PySem PySem.W PyProof.Rows
set_option maxRecDepth 100000 in
set_option maxHeartbeats 0 in
theorem PySem.Challenge.cw_knotwise_k01_a_row_seated_holds : PySem.Challenge.rw_knotwise_k01_a_row_seated.Holds := by
  w_on; o_law; k_head; (case hw => w_witness2)
  k_fill
  refine K2.law_walk (l := PySem.Challenge.rw_knotwise_k01_a_row_seated) (k := 3) (x := "_law_script") rfl rfl ⟨rfl, by decide, by decide⟩ (fun w h Y => PySem.W.kIn_of Y) ?F
  case F =>
    intro w mg fa h KX G hmg
    refine' Fin.all_mk KX G hmg ?a0 ?l0 ?c0 ?k0 ?a1 ?l1 ?c1 ?k1 ?a2 ?l2 ?c2 ?k2 ?a3 ?l3 ?c3 ?k3 ?a4 ?l4 ?c4 ?k4 ?a5 ?l5 ?c5 ?k5 ?z_len ?z_min ?z_bool ?z_int ?z_isinstance ?z_all ?z_list ?z_tuple ?z_range
    (case a0 => k_is); (case l0 => k_is); (case c0 => k_is); (case k0 => k_is)
    (case a1 => k_is); (case l1 => k_is); (case c1 => k_is); (case k1 => k_is)
    (case a2 => k_is); (case l2 => k_is); (case c2 => k_is); (case k2 => k_is)
    (case a3 => k_is); (case l3 => k_is); (case c3 => k_is); (case k3 => k_is)
    (case a4 => k_is); (case l4 => k_is); (case c4 => k_is); (case k4 => k_is)
    (case a5 => k_is); (case l5 => k_is); (case c5 => k_is); (case k5 => k_is)
    (case z_len => k_is)
    (case z_min => k_is)
    (case z_bool => k_is)
    (case z_int => k_is)
    (case z_isinstance => k_is)
    (case z_all => k_is)
    (case z_list => k_is)
    (case z_tuple => k_is)
    (case z_range => k_is)

end