import PyProof.Rows.All
import Wide.All
import OpenK.AllK
import Wide.FinOn
import Lean
import PyProof.EqAt
import PyProof.EqKinds
import PyProof.TupleCall
import PySem.Challenge.RW_broadrow_k36_kept_and_merged
set_option Elab.async false
set_option linter.all false
set_option maxRecDepth 100000
/-! THE HAND LAYER, for ints, bools, texts, own classes, LISTS and tuples (index, slices, in, append, pop ..), calls, loops. Paste it whole ahead of your own text; what your proof does not reach may be deleted. -/
namespace L2
open PySem PySem.Spec PyProof.Rows

/-- a key: an int or a str -/
abbrev Key := Sum Int Str
def keyIs : Key → Value → Bool
  | .inl k, v => Value.isInt k v
  | .inr x, v => Value.isStrOf x v
def keyH (w : World) : Key → Int
  | .inl k => hashInt k
  | .inr x => hashStr w x
theorem keyIs_shape : ∀ {k : Key} {v : Value}, keyIs k v = true → (∃ i t, k = Sum.inl i ∧ v = Value.int i t) ∨ (∃ x t, k = Sum.inr x ∧ v = Value.str x t)
  | .inl i, v, h => by
    obtain ⟨t, e⟩ := Value.isInt_shape (k := i) (v := v) h
    exact .inl ⟨i, t, rfl, e⟩
  | .inr x, v, h => by
    obtain ⟨t, e⟩ := Value.isStrOf_shape (x := x) (v := v) h
    exact .inr ⟨x, t, rfl, e⟩
theorem keyIs_int (i : Int) (t : Tok) : keyIs (.inl i) (.int i t) = true := by simp [keyIs, Value.isInt]
theorem keyIs_str (x : Str) (t : Tok) : keyIs (.inr x) (.str x t) = true := by simp [keyIs, Value.isStrOf]
theorem key_ll (a b : Int) : decide ((Sum.inl a : Key) = Sum.inl b) = (a == b) := by
  by_cases e : a = b
  · subst e; simp
  · have h : ¬ (Sum.inl a : Key) = Sum.inl b := fun q => e (Sum.inl.inj q)
    rw [decide_eq_false h]
    exact (beq_eq_false_iff_ne.mpr e).symm
theorem key_rr (a b : Str) : decide ((Sum.inr a : Key) = Sum.inr b) = decide (a = b) := by
  by_cases e : a = b
  · subst e; simp
  · have h : ¬ (Sum.inr a : Key) = Sum.inr b := fun q => e (Sum.inr.inj q)
    rw [decide_eq_false h, decide_eq_false e]
theorem key_lr (a : Int) (b : Str) : decide ((Sum.inl a : Key) = Sum.inr b) = false := decide_eq_false (fun q => nomatch q)
theorem key_rl (a : Str) (b : Int) : decide ((Sum.inr a : Key) = Sum.inl b) = false := decide_eq_false (fun q => nomatch q)

def mixKind (prog : Program) (w : World) : PySem.KeyKind prog w Key where
  is := keyIs
  hash := keyH w
  inj := fun v a b ha hb => by
    rcases keyIs_shape ha with ⟨i, t, rfl, rfl⟩ | ⟨x, t, rfl, rfl⟩
    · rcases keyIs_shape hb with ⟨j, u, rfl, e⟩ | ⟨y, u, rfl, e⟩
      · injection e with e1 _; rw [e1]
      · exact nomatch e
    · rcases keyIs_shape hb with ⟨j, u, rfl, e⟩ | ⟨y, u, rfl, e⟩
      · exact nomatch e
      · injection e with e1 _; rw [e1]
  byValue := fun k v h => by
    rcases keyIs_shape h with ⟨i, t, rfl, rfl⟩ | ⟨x, t, rfl, rfl⟩ <;> rfl
  pyHash := fun hv h => by
    rcases keyIs_shape hv with ⟨i, t, rfl, rfl⟩ | ⟨x, t, rfl, rfl⟩
    · exact wpAny_pyHash_int h
    · exact wpAny_pyHash_str h
  eqBool := fun hu hv h => by
    rcases keyIs_shape hu with ⟨i, t, rfl, rfl⟩ | ⟨x, t, rfl, rfl⟩
    · rcases keyIs_shape hv with ⟨j, u, rfl, rfl⟩ | ⟨y, u, rfl, rfl⟩
      · rw [key_ll] at h; exact wpAny_eqBool_int h
      · rw [key_lr] at h; exact SeqAt.EqAt.int_str i t y u _ _ _ _ h
    · rcases keyIs_shape hv with ⟨j, u, rfl, rfl⟩ | ⟨y, u, rfl, rfl⟩
      · rw [key_rl] at h; exact SeqAt.EqAt.str_int x t j u _ _ _ _ h
      · rw [key_rr] at h; exact wpAny_eqBool_str h
  «strs» := fun k x t v h => by
    rcases keyIs_shape h with ⟨i, u, rfl, e⟩ | ⟨y, u, rfl, e⟩
    · exact nomatch e
    · injection e with e1 _
      subst e1
      cases v <;> rfl

theorem mixKind_is (prog : Program) (w : World) (k : Key) (v : Value) : (mixKind prog w).is k v = keyIs k v := rfl
theorem mixKind_int (prog : Program) (w : World) (i : Int) (t : Tok) : (mixKind prog w).is (.inl i) (.int i t) = true := keyIs_int i t
theorem mixKind_str (prog : Program) (w : World) (x : Str) (t : Tok) : (mixKind prog w).is (.inr x) (.str x t) = true := keyIs_str x t
end L2

namespace L2
open PySem PySem.Spec PyProof.Rows

/-- a value, without the heap -/
inductive V where
  | non | bl (b : Bool) | int (i : Int) | str (x : Str) | byt (b : Array UInt8) | flt (b : UInt64) | ref (a : Addr) | ty (n : String)
  deriving DecidableEq

def RelV : V → Value → Prop
  | .non, u => u = Value.none
  | .bl b, u => u = Value.bool b
  | .int i, u => ∃ t, u = Value.int i t
  | .str x, u => ∃ t, u = Value.str x t
  | .byt b, u => ∃ t, u = Value.bytes b t
  | .flt b, u => ∃ t, u = Value.float b t
  | .ref a, u => u = Value.ref a
  | .ty n, u => u = Value.type n

abbrev Vals : List V → List Value → Prop := Paired RelV
theorem Vals.length {xs : List V} {us : List Value} (r : Vals xs us) : xs.length = us.length := Paired.length r
theorem Vals.get : ∀ {xs : List V} {us : List Value} {i : Nat} {x : V}, Vals xs us → xs[i]? = some x → ∃ u, us[i]? = some u ∧ RelV x u
  | _, _, _, _, .nil, e => by simp at e
  | _, _, 0, _, .cons r _, e => by simp at e; subst e; exact ⟨_, rfl, r⟩
  | _, _, i + 1, x, .cons _ t, e => by
    obtain ⟨u, h1, h2⟩ := Vals.get (i := i) (x := x) t (by simpa using e)
    exact ⟨u, by simpa using h1, h2⟩
theorem Vals.set {x : V} {u : Value} (r : RelV x u) : ∀ {xs : List V} {us : List Value} (i : Nat), Vals xs us → Vals (xs.set i x) (us.set i u)
  | _, _, _, .nil => .nil
  | _, _, 0, .cons _ t => .cons r t
  | _, _, i + 1, .cons q t => .cons q (Vals.set r i t)
theorem Vals.append : ∀ {xs ys : List V} {us ws : List Value}, Vals xs us → Vals ys ws → Vals (xs ++ ys) (us ++ ws)
  | _, _, _, _, .nil, s => s
  | _, _, _, _, .cons r t, s => .cons r (Vals.append t s)
theorem Vals.take : ∀ {xs : List V} {us : List Value} (n : Nat), Vals xs us → Vals (xs.take n) (us.take n)
  | _, _, 0, _ => .nil
  | _, _, _ + 1, .nil => .nil
  | _, _, n + 1, .cons r t => .cons r (Vals.take n t)
theorem Vals.drop : ∀ {xs : List V} {us : List Value} (n : Nat), Vals xs us → Vals (xs.drop n) (us.drop n)
  | _, _, 0, r => r
  | _, _, _ + 1, .nil => .nil
  | _, _, n + 1, .cons _ t => Vals.drop n t
theorem Vals.none_of : ∀ {xs : List V} {us : List Value} {i : Nat}, Vals xs us → xs[i]? = none → us[i]? = none := fun {xs us i} r e => by
  have h1 := r.length
  have h2 : xs.length ≤ i := List.getElem?_eq_none_iff.mp e
  exact List.getElem?_eq_none_iff.mpr (by omega)

def RelO : Option V → Option Value → Prop
  | some v, some u => RelV v u
  | none, none => True
  | _, _ => False
def KV {κ : Type} : List (κ × V) → List (κ × Value) → Prop := Paired fun (p : κ × V) (q : κ × Value) => p.1 = q.1 ∧ RelV p.2 q.2

/-- a key of a dict (00_mix): an int or a text -/
def kV : Key → V
  | .inl i => .int i
  | .inr x => .str x

/-- what stands at a tracked address -/
inductive HO where
  /-- a list -/
  | lst (xs : List V)
  /-- a tuple (never changes) -/
  | tup (xs : List V)
  /-- a dict whose keys are ints and texts; one whose keys are tuples of ints and texts (the empty one is both) -/
  | dK (kvs : List (Key × V)) | dT (kvs : List (List Key × V))
  /-- a set of ints: its members, its size -/
  | set (S : Int → Bool) (n : Nat)
  /-- an instance of the class at C, its dict at dx, its attributes -/
  | ins (C dx : Addr) (fs : List (Str × V))
  /-- the dict of the instance at x -/
  | own (x : Addr)
  /-- the dict of an exception -/
  | xd (fs : List (Str × V))
  /-- a bound method, f of x -/
  | met (f x : Addr)
  /-- a range object lo, lo + 1, .. below hi -/
  | rng (lo hi : Int)
  /-- a thing that is known to the object (the script; a dict while a loop walks it): read, never written while it is so -/
  | frz (o : Obj) (u : HO)
  /-- a code object's table -/
  | tbl (ps : Array Value)
  /-- any other thing, by what is true of its one object (a def of one's own: SetO a S n := HO.ext fun h => ..) -/
  | ext (φ : Heap → Prop)

abbrev Hp := Addr → Option HO
def upd (H : Hp) (a : Addr) (o : HO) : Hp := fun b => if b = a then some o else H b
theorem upd_same {H : Hp} {a : Addr} {o : HO} : upd H a o a = some o := by unfold upd; rw [if_pos rfl]
theorem upd_ne {H : Hp} {a b : Addr} {o : HO} (h : b ≠ a) : upd H a o b = H b := by unfold upd; rw [if_neg h]
theorem upd_upd {H : Hp} {a : Addr} {o u : HO} : upd (upd H a o) a u = upd H a u := by
  funext b; unfold upd; split <;> rfl
/-- two objects of different content stand apart -/
theorem ne_of {H : Hp} {a b : Addr} {o u : HO} (h : H a = some o) (h' : H b = some u) (d : o ≠ u) : a ≠ b := by
  intro e; subst e; rw [h] at h'; exact d (Option.some.inj h')
theorem ne_of_none {H : Hp} {a b : Addr} {o : HO} (h : H a = some o) (h' : H b = none) : a ≠ b := by
  intro e; subst e; rw [h] at h'; cases h'

section
variable (P : Program) (w : World)
def ObjOk (H : Hp) (h : Heap) (a : Addr) : HO → Prop
  | .lst xs => xs.length ≤ sizeLine ∧ ∃ (its : List Value) (n : Nat), Vals xs its ∧ h.get? a = some { cls := .type "list", data := .seq its.toArray n }
  | .tup xs => xs.length ≤ sizeLine ∧ ∃ its : List Value, Vals xs its ∧ IsTup h a its.toArray
  | .dK kvs => kvs.length ≤ sizeLine ∧ (a == sysModules) = false ∧ ∃ vs, KV kvs vs ∧ h.DictOf (mixKind P w) a vs
  | .dT kvs => kvs.length ≤ sizeLine ∧ (a == sysModules) = false ∧ ∃ xs : List (List Key × Addr × Value),
      Paired (fun (p : List Key × V) (q : List Key × Addr × Value) => p.1 = q.1 ∧ H q.2.1 = some (.tup (p.1.map kV)) ∧ RelV p.2 q.2.2) kvs xs ∧
      ∃ o es ep, h.get? a = some o ∧ o.ExactDict ∧ o.data = .dict es ep ∧ es.toList = xs.map (entryOfKey (tupleKind (mixKind P w))) ∧ (xs.map (·.1)).Nodup
  | .set S n => h.SetOf (intKind P w) a S n
  | .ins C dx fs => H dx = some (.own a) ∧ fs.length ≤ 1000 ∧ dx ≠ a ∧ h.get? a = some (PySem.W.instObj C dx) ∧
      ∃ mA, h.Ns1 dx mA ∧ (∀ f, RelO (fs.lookup f) (mA f)) ∧ PySem.Within mA (fs.map (·.1))
  | .own _ => ∃ o, h.get? a = some o
  | .xd fs => ∃ mA, h.Ns1 a mA ∧ ∀ f, RelO (fs.lookup f) (mA f)
  | .rng lo hi => ∃ t u v, h.get? a = some { cls := .type "range", data := .fields #[.int lo t, .int hi u, .int 1 v] }
  | .frz o u => h.get? a = some o ∧ ObjOk H h a u
  | .tbl ps => h.get? a = some { cls := .none, data := .fields ps }
  | .met f x => h.get? a = some (PySem.W.methodObj (.ref f) (.ref x))
  | .ext φ => φ h ∧ (∃ o, h.get? a = some o) ∧ ∀ h1 h2 : Heap, φ h1 → (∀ o, h1.get? a = some o → h2.get? a = some o) → φ h2
/-- the abstract heap is held -/
def HOk (H : Hp) (h : Heap) : Prop := ∀ a o, H a = some o → ObjOk P w H h a o
end

section
variable {P : Program} {w : World} {H H' : Hp} {h h' : Heap} {a : Addr} {o : HO}
theorem ObjOk.lt (x : ObjOk P w H h a o) : a < h.objs.size := by
  cases o with
  | lst xs => obtain ⟨_, _, _, _, e⟩ := x; exact Heap.lt_size e
  | tup xs => obtain ⟨_, _, _, p⟩ := x; exact p.lt
  | dK kvs => obtain ⟨_, _, _, _, o, _, _, e, _⟩ := x; exact Heap.lt_size e
  | dT kvs => obtain ⟨_, _, _, _, o, _, _, e, _⟩ := x; exact Heap.lt_size e
  | set S n => obtain ⟨o, _, _, _, e, _⟩ := x; exact Heap.lt_size e
  | ins C dx fs => obtain ⟨_, _, _, e, _⟩ := x; exact Heap.lt_size e
  | own y => obtain ⟨_, e⟩ := x; exact Heap.lt_size e
  | xd fs => obtain ⟨_, ⟨_, _, _, e, _⟩, _⟩ := x; exact Heap.lt_size e
  | rng lo hi => obtain ⟨_, _, _, e⟩ := x; exact Heap.lt_size e
  | frz ob u => obtain ⟨e, _⟩ := x; exact Heap.lt_size e
  | tbl ps => exact Heap.lt_size (show h.get? a = some _ from x)
  | met f y => exact Heap.lt_size (show h.get? a = some _ from x)
  | ext φ => obtain ⟨_, ⟨_, e⟩, _⟩ := x; exact Heap.lt_size e
theorem Paired.mapP {α β : Type} {F G : α → β → Prop} : ∀ {l₁ : List α} {l₂ : List β}, Paired F l₁ l₂ → (∀ a b, F a b → G a b) → Paired G l₁ l₂
  | _, _, .nil, _ => .nil
  | _, _, .cons r t, f => .cons (f _ _ r) (Paired.mapP t f)
theorem Paired.imp' {α β : Type} {F G : α → β → Prop} (f : ∀ a b, F a b → G a b) {l₁ : List α} {l₂ : List β} (r : Paired F l₁ l₂) : Paired G l₁ l₂ := Paired.mapP r f
/-- what an object's description leans on: its own object, its own dict, the tuples -/
theorem ObjOk.stay (x : ObjOk P w H h a o) (k : ∀ b u, (b = a ∨ H b = some (.own a)) → h.get? b = some u → h'.get? b = some u)
    (ho : ∀ b, H b = some (.own a) → H' b = some (.own a)) (ht : ∀ b xs, H b = some (.tup xs) → H' b = some (.tup xs)) : ObjOk P w H' h' a o := by
  induction o with
  | lst xs => obtain ⟨z, its, n, r, e⟩ := x; exact ⟨z, its, n, r, k _ _ (.inl rfl) e⟩
  | tup xs => obtain ⟨z, its, r, ob, e, c⟩ := x; exact ⟨z, its, r, ob, k _ _ (.inl rfl) e, c⟩
  | dK kvs => obtain ⟨z, y, vs, r, ob, es, ep, e, c⟩ := x; exact ⟨z, y, vs, r, ob, es, ep, k _ _ (.inl rfl) e, c⟩
  | dT kvs =>
    obtain ⟨z, y, xs, r, ob, es, ep, e, c⟩ := x
    exact ⟨z, y, xs, Paired.mapP r fun p q z => ⟨z.1, ht _ _ z.2.1, z.2.2⟩, ob, es, ep, k _ _ (.inl rfl) e, c⟩
  | set S n => obtain ⟨ob, es, ep, t, e, c⟩ := x; exact ⟨ob, es, ep, t, k _ _ (.inl rfl) e, c⟩
  | ins C dx fs =>
    obtain ⟨d, z, ne, e, mA, ⟨od, es, ep, e2, c⟩, r⟩ := x
    exact ⟨ho _ d, z, ne, k _ _ (.inl rfl) e, mA, ⟨od, es, ep, k _ _ (.inr d) e2, c⟩, r⟩
  | own y => obtain ⟨ob, e⟩ := x; exact ⟨ob, k _ _ (.inl rfl) e⟩
  | xd fs => obtain ⟨mA, ⟨od, es, ep, e, c⟩, r⟩ := x; exact ⟨mA, ⟨od, es, ep, k _ _ (.inl rfl) e, c⟩, r⟩
  | rng lo hi => obtain ⟨t, u, v, e⟩ := x; exact ⟨t, u, v, k _ _ (.inl rfl) e⟩
  | frz ob u ih => obtain ⟨e, q⟩ := x; exact ⟨k _ _ (.inl rfl) e, ih q⟩
  | tbl ps =>
    have e : h.get? a = some { cls := .none, data := .fields ps } := x
    show h'.get? a = some { cls := .none, data := .fields ps }
    exact k a _ (.inl rfl) e
  | met f y =>
    have e : h.get? a = some (PySem.W.methodObj (.ref f) (.ref y)) := x
    show h'.get? a = some (PySem.W.methodObj (.ref f) (.ref y))
    exact k a _ (.inl rfl) e
  | ext φ => obtain ⟨p, ⟨o, e⟩, st⟩ := x; exact ⟨st _ _ p fun o q => k _ _ (.inl rfl) q, ⟨o, k _ _ (.inl rfl) e⟩, st⟩
theorem HOk.lt (x : HOk P w H h) (e : H a = some o) : a < h.objs.size := (x a o e).lt
theorem HOk.fresh (x : HOk P w H h) (e : h.objs.size ≤ a) : H a = none := by
  cases q : H a with
  | none => rfl
  | some u => exact absurd (Nat.lt_of_lt_of_le (x.lt q) e) (Nat.lt_irrefl _)
/-- every object of the heap is kept -/
theorem HOk.kept (x : HOk P w H h) (k : ∀ b u, h.get? b = some u → h'.get? b = some u) : HOk P w H h' := fun a o e =>
  (x a o e).stay (fun b u _ q => k b u q) (fun _ q => q) fun _ _ q => q
/-- a new object is laid and tracked -/
theorem HOk.laid (x : HOk P w H h) (k : ∀ b u, h.get? b = some u → h'.get? b = some u) (hp : h.objs.size ≤ a) (new : ObjOk P w (upd H a o) h' a o) : HOk P w (upd H a o) h' := fun b u e => by
  have hn := x.fresh hp
  by_cases hb : b = a
  · subst hb; rw [upd_same] at e; cases e; exact new
  · rw [upd_ne hb] at e
    exact (x b u e).stay (fun c v _ q => k c v q) (fun c q => by rw [upd_ne (ne_of_none q hn)]; exact q) fun c xs q => by rw [upd_ne (ne_of_none q hn)]; exact q
end

/-- what may be read as u: it is u, or a known u -/
def Rd (H : Hp) (a : Addr) (u : HO) : Prop := H a = some u ∨ ∃ o, H a = some (.frz o u)
theorem Rd.of {H : Hp} {a : Addr} {u : HO} (h : H a = some u) : Rd H a u := .inl h
theorem Rd.ok {P : Program} {w : World} {H : Hp} {h : Heap} {a : Addr} {u : HO} (r : Rd H a u) (x : HOk P w H h) : ObjOk P w H h a u := by
  rcases r with r | ⟨o, r⟩
  · exact x a u r
  · obtain ⟨_, q⟩ := x a _ r
    exact q
/-- what may be written -/
def Mut : Option HO → Prop
  | some (.lst _) => True
  | some (.dK _) => True
  | some (.dT _) => True
  | some (.set _ _) => True
  | some (.ins _ _ _) => True
  | some (.ext _) => True
  | _ => False
section
variable {P : Program} {w : World} {H : Hp} {h h' : Heap} {x e : Addr} {o' : HO}
/-- the object at e is changed: x itself, or the dict of the instance x -/
theorem HOk.write (ok : HOk P w H h) (mu : Mut (H x)) (he : e = x ∨ H e = some (.own x)) (k : ∀ b u, b ≠ e → h.get? b = some u → h'.get? b = some u) (heo : ∃ u, h'.get? e = some u)
    (new : ObjOk P w (upd H x o') h' x o') : HOk P w (upd H x o') h' := fun b u q => by
  have nown : ∀ c y, H c = some (.own y) → c ≠ x := fun c y r z => by subst z; rw [r] at mu; exact mu
  have ntup : ∀ c xs, H c = some (.tup xs) → c ≠ x := fun c xs r z => by subst z; rw [r] at mu; exact mu
  by_cases hb : b = x
  · subst hb; rw [upd_same] at q; cases q; exact new
  · rw [upd_ne hb] at q
    by_cases hbe : b = e
    · have q' : H b = some (.own x) := by
        rcases he with z | z
        · exact absurd (hbe.trans z) hb
        · rw [hbe]; exact z
      rw [q] at q'; cases q'
      obtain ⟨v, hv⟩ := heo
      exact ⟨v, by rw [hbe]; exact hv⟩
    · refine (ok b u q).stay (fun c v hc r => k c v ?_ r) (fun c r => by rw [upd_ne (nown c b r)]; exact r) fun c xs r => by rw [upd_ne (ntup c xs r)]; exact r
      rcases hc with rfl | hc
      · exact hbe
      · rintro rfl
        rcases he with z | z
        · exact nown c b hc z
        · rw [hc] at z; cases z; exact hb rfl
end

/-! ### kept unless tracked; of the frames at fs (the callers') the slots may change (an exception that passes writes there); of the records at ex (iterators) nothing is said -/
structure Un (fs ex : List Addr) (H H' : Hp) (h h' : Heap) : Prop where
  keep : ∀ b o, h.get? b = some o → H b = none → b ∉ fs → b ∉ ex → h'.get? b = some o
  slot : ∀ b o, h.get? b = some o → H b = none → b ∈ fs → b ∉ ex → ∃ sl, h'.get? b = some { o with slots := sl }
  free : ∀ b o, h.get? b = some o → H b = none → b ∉ ex → H' b = none
  there : ∀ b o, h.get? b = some o → b ∉ ex → ∃ o', h'.get? b = some o'
  tups : ∀ b xs, H b = some (.tup xs) → H' b = some (.tup xs)
  frzs : ∀ b o u, H b = some (.frz o u) → H' b = some (.frz o u)
  tbls : ∀ b ps, H b = some (.tbl ps) → ∃ more, H' b = some (.tbl (ps ++ more))
section
variable {fs fs' ex ex' : List Addr} {H H1 H2 : Hp} {h h1 h2 h' : Heap} {a x e : Addr} {o : HO}
theorem Un.any (u : Un fs ex H H1 h h1) {b : Addr} {ob : Obj} (q : h.get? b = some ob) (n : H b = none) (hx : b ∉ ex) : ∃ sl, h1.get? b = some { ob with slots := sl } := by
  by_cases hb : b ∈ fs
  · exact u.slot b ob q n hb hx
  · exact ⟨ob.slots, u.keep b ob q n hb hx⟩
theorem Un.trans (a : Un fs ex H H1 h h1) (b : Un fs ex H1 H2 h1 h2) : Un fs ex H H2 h h2 where
  keep := fun c ob q n hc hx => b.keep c ob (a.keep c ob q n hc hx) (a.free c ob q n hx) hc hx
  slot := fun c ob q n hc hx => by
    obtain ⟨sl, e1⟩ := a.slot c ob q n hc hx
    obtain ⟨sl', e2⟩ := b.slot c _ e1 (a.free c ob q n hx) hc hx
    exact ⟨sl', e2⟩
  free := fun c ob q n hx => by
    obtain ⟨o', e1⟩ := a.there c ob q hx
    exact b.free c o' e1 (a.free c ob q n hx) hx
  there := fun c ob q hx => by
    obtain ⟨o', e1⟩ := a.there c ob q hx
    exact b.there c o' e1 hx
  tups := fun c xs q => b.tups c xs (a.tups c xs q)
  frzs := fun c ob xs q => b.frzs c ob xs (a.frzs c ob xs q)
  tbls := fun c ps q => by
    obtain ⟨m1, e1⟩ := a.tbls c ps q
    obtain ⟨m2, e2⟩ := b.tbls c _ e1
    exact ⟨m1 ++ m2, by rw [e2, Array.append_assoc]⟩
theorem Un.kept (k : ∀ b u, h.get? b = some u → h'.get? b = some u) : Un fs ex H H h h' :=
  ⟨fun b ob q _ _ _ => k b ob q, fun b ob q _ _ _ => ⟨ob.slots, k b ob q⟩, fun _ _ _ n _ => n, fun b ob q _ => ⟨ob, k b ob q⟩, fun _ _ q => q, fun _ _ _ q => q, fun _ ps q => ⟨#[], by rw [q]; simp⟩⟩
theorem Un.refl : Un fs ex H H h h := Un.kept fun _ _ q => q
theorem Un.laid (k : ∀ b u, h.get? b = some u → h'.get? b = some u) (hp : h.objs.size ≤ a) (hn : H a = none) : Un fs ex H (upd H a o) h h' where
  keep := fun b u q _ _ _ => k b u q
  slot := fun b u q _ _ _ => ⟨u.slots, k b u q⟩
  free := fun b u q n _ => by rw [upd_ne (Nat.ne_of_lt (Nat.lt_of_lt_of_le (Heap.lt_size q) hp))]; exact n
  there := fun b u q _ => ⟨u, k b u q⟩
  tups := fun b xs q => by rw [upd_ne (ne_of_none q hn)]; exact q
  frzs := fun b u xs q => by rw [upd_ne (ne_of_none q hn)]; exact q
  tbls := fun b ps q => ⟨#[], by rw [upd_ne (ne_of_none q hn), q]; simp⟩
theorem Un.write (mu : Mut (H x)) (he : e = x ∨ H e = some (.own x)) (k : ∀ b u, b ≠ e → h.get? b = some u → h'.get? b = some u) (heo : ∃ u, h'.get? e = some u) : Un fs ex H (upd H x o) h h' := by
  have hx : ∀ b, H b = none → b ≠ x := fun b n z => by subst z; rw [n] at mu; exact mu
  have hb : ∀ b, H b = none → b ≠ e := fun b n z => by
    subst z
    rcases he with r | r
    · exact hx b n r
    · rw [n] at r; cases r
  have hm : ∀ b u, H b = some u → ¬ Mut (some u) → b ≠ x := fun b u q nm z => by subst z; rw [q] at mu; exact nm mu
  refine ⟨fun b u q n _ _ => k b u (hb b n) q, fun b u q n _ _ => ⟨u.slots, k b u (hb b n) q⟩, fun b u q n _ => by rw [upd_ne (hx b n)]; exact n, fun b u q _ => ?_,
    fun b xs q => by rw [upd_ne (hm b _ q fun z => z)]; exact q, fun b u xs q => by rw [upd_ne (hm b _ q fun z => z)]; exact q, fun b ps q => ⟨#[], by rw [upd_ne (hm b _ q fun z => z), q]; simp⟩⟩
  by_cases hbe : b = e
  · subst hbe; exact heo
  · exact ⟨u, k b u hbe q⟩
theorem Un.mono (u : Un fs ex H H1 h h1) (hs : ∀ b ∈ fs, b ∈ fs') (hx : ∀ b ∈ ex, b ∈ ex') : Un fs' ex' H H1 h h1 :=
  ⟨fun b ob q n hb he => u.keep b ob q n (fun z => hb (hs b z)) fun z => he (hx b z), fun _ _ q n _ he => u.any q n fun z => he (hx _ z), fun b ob q n he => u.free b ob q n fun z => he (hx b z), fun b ob q he => u.there b ob q fun z => he (hx b z), u.tups, u.frzs, u.tbls⟩
end

/-! ### the heap without what is tracked -/
def trk (h : Heap) (H : Hp) : List Addr := (List.range h.objs.size).filter fun a => (H a).isSome
def hidT (h : Heap) (H : Hp) : Heap := PySem.W.hideAll h (trk h H)
theorem hidT_size (h : Heap) (H : Hp) : (hidT h H).objs.size = h.objs.size := PySem.W.hideAll_size _ _
theorem hidT_get {h : Heap} {H : Hp} {b : Addr} {o : Obj} (e : h.get? b = some o) (n : H b = none) : (hidT h H).get? b = some o :=
  PySem.W.hideAll_get _ e fun hm => by
    have q : (H b).isSome = true := (List.mem_filter.mp hm).2
    rw [n] at q; simp at q
theorem of_hidT {h : Heap} {H : Hp} {b : Addr} {o : Obj} (e : (hidT h H).get? b = some o) : h.get? b = some o ∧ H b = none := by
  have e' : h.get? b = some o := PySem.W.of_hideAll (trk h H) e
  refine ⟨e', ?_⟩
  cases q : H b with
  | none => rfl
  | some x =>
    have hm : b ∈ trk h H := List.mem_filter.mpr ⟨List.mem_range.mpr (Heap.lt_size e'), by simp [q]⟩
    have z : (hidT h H).get? b = none := PySem.W.hideAll_none (trk h H) hm
    rw [z] at e; cases e

/-! ### OpenK's ledger, filled with every new object but one -/
def allNews (g h : Heap) (L : Addr) : List (Addr × Obj) := (List.range h.objs.size).filterMap fun a => if a = L ∨ (g.get? a).isSome = true then none else (h.get? a).map fun o => (a, o)
theorem mem_allNews {g h : Heap} {L a : Addr} {o : Obj} (h1 : a ≠ L) (h2 : g.get? a = none) (h3 : h.get? a = some o) : (a, o) ∈ allNews g h L :=
  List.mem_filterMap.mpr ⟨a, List.mem_range.mpr (Heap.lt_size h3), by simp [h1, h2, h3]⟩
theorem of_mem_allNews {g h : Heap} {L : Addr} {p : Addr × Obj} (hp : p ∈ allNews g h L) : p.1 ≠ L ∧ g.get? p.1 = none ∧ h.get? p.1 = some p.2 := by
  obtain ⟨b, _, e⟩ := List.mem_filterMap.mp hp
  split at e
  · cases e
  · rename_i hn
    cases q : h.get? b with
    | none => rw [q] at e; simp at e
    | some u =>
      rw [q] at e
      simp only [Option.map_some, Option.some.injEq] at e
      subst e
      refine ⟨fun z => hn (.inl z), ?_, q⟩
      show g.get? b = none
      cases r : g.get? b with
      | none => rfl
      | some v => exact (hn (.inr (by simp [r]))).elim
def rest (g h : Heap) (L d : Addr) : List (Addr × Obj) := (allNews g h L).filter fun p => decide (p.1 ≠ d)
theorem rest_ne {g h : Heap} {L d : Addr} : ∀ p ∈ rest g h L d, p.1 ≠ d := fun p hp => of_decide_eq_true (List.mem_filter.mp hp).2
theorem mem_rest {g h : Heap} {L d a : Addr} {o : Obj} (h1 : a ≠ L) (h2 : g.get? a = none) (h3 : h.get? a = some o) (h4 : a ≠ d) : (a, o) ∈ rest g h L d :=
  List.mem_filter.mpr ⟨mem_allNews h1 h2 h3, decide_eq_true h4⟩
theorem news_all {g h : Heap} {L : Addr} : News g L h (allNews g h L) := fun p hp => let ⟨a, b, c⟩ := of_mem_allNews hp; ⟨c, a, b⟩
theorem news_at {g h : Heap} {L d : Addr} {o : Obj} (h1 : d ≠ L) (h2 : g.get? d = none) (h3 : h.get? d = some o) : News g L h ((d, o) :: rest g h L d) := fun p hp => by
  rcases List.mem_cons.mp hp with rfl | hp
  · exact ⟨h3, h1, h2⟩
  · exact news_all p (List.mem_filter.mp hp).1
/-- behind a rule that changed d alone: all else but the frame is kept -/
theorem kept_of_news {g h h' : Heap} {L d : Addr} {m : Str → Option Value} (k : ∀ b o, g.get? b = some o → h.get? b = some o) (F : Fr g L h' m) (N : News g L h' (rest g h L d)) :
    ∀ b o, b ≠ L → b ≠ d → h.get? b = some o → h'.get? b = some o := fun b o h1 h2 e => by
  cases q : g.get? b with
  | some u =>
    have := k b u q
    rw [e] at this; cases this
    exact F.keep b _ q
  | none => exact (N (b, o) (mem_rest h1 q e h2)).1
end L2

namespace L2
open PySem PySem.Spec PyProof.Rows

/-- the module's facts, over the base: the heap at the law's entry without what is tracked there -/
structure Mod (K : PySem.W.Frag) (mg : Str → Option Value) (base : Heap) : Prop where
  kin : K.In base
  glob : base.Ns mainGlobals mg
  blt : ∃ mb, base.Ns builtinsNs mb ∧ ∀ x : Str, x ≠ "__name__" → mb x = bootBuiltins x
  nolimit : base.NoLimit

/-- the context: a def's body (or a comprehension's block) running. base: fixed through the whole law; s₀, H₀: the entry; outer: the frames whose slots others may change (a def's callers); stack: all frames that run;
   ex: iterators that were made ahead of the entry and are walked here (a comprehension's); fn: the names whose cells were made at the entry (a def: all; a comprehension's block: its own); calm: not within an except suite; pn: pins that every state bears; xe: what is wanted of an exception that leaves the code -/
structure Cx where
  prog : Program
  w : World
  K : PySem.W.Frag
  mg : Str → Option Value
  base : Heap
  A : Around
  N : List Str
  s₀ : Shared
  H₀ : Hp
  env : Env
  outer : List Env
  stack : List Env
  ex : List Addr
  fn : Str → Bool
  calm : Bool
  pn : List (Addr × Obj)
  xe : Value → Shared → Prop
/-- the callers' frames -/
def frs (l : List Env) : List Addr := l.filterMap (·.frame)
abbrev Cx.fs (X : Cx) : List Addr := frs X.outer

def Vis (sc : Scope) (x : Str) : Prop := sc.names.lookup x = some .local ∨ sc.names.lookup x = some .cell ∨ sc.names.lookup x = some .free
def Loc (sc : Scope) (x : Str) : Prop := sc.names.lookup x = some .local ∨ sc.names.lookup x = some .cell
def Look (env : Env) (h : Heap) (m : Str → Option Value) (x : Str) (u : Value) : Prop :=
  (env.kindOf x = some .local ∧ m x = some u) ∨ ((env.kindOf x = some .cell ∨ env.kindOf x = some .free) ∧ ∃ c, env.cells.lookup x = some c ∧ h.IsCell c (some u))

structure Cx.Ok (X : Cx) : Prop where
  mod : Mod X.K X.mg X.base
  kind : X.env.scope.kind = .function
  glob : X.env.globals = mainGlobals
  blt : X.env.builtins = builtinsNs
  above : X.s₀.heap.objs.size ≤ X.env.locals
  inj : ∀ x y c, X.env.cells.lookup x = some c → X.env.cells.lookup y = some c → x = y
  has : ∀ x, (X.env.kindOf x = some .cell ∨ X.env.kindOf x = some .free) → ∃ c, X.env.cells.lookup x = some c
  cab : ∀ x c, X.fn x = true → X.env.cells.lookup x = some c → X.s₀.heap.objs.size ≤ c
  hd : X.calm = true → X.A.handled = none
  frames : X.A.frames = some X.stack
  stk : X.stack = X.outer ∨ (X.stack = X.env :: X.outer ∧ X.env.frame = some X.env.locals)
  exf : ∀ b ∈ X.ex, b ≠ X.env.locals ∧ ∀ x c, X.env.cells.lookup x = some c → c ≠ b
  bs : ∀ b o, X.base.get? b = some o → X.s₀.heap.get? b = some o ∧ X.H₀ b = none
  bsz : X.base.objs.size ≤ X.s₀.heap.objs.size
  noex : ∀ b o, X.base.get? b = some o → b ∉ X.ex
  exfs : ∀ b ∈ X.ex, b ∉ X.fs
  funs : X.s₀.heap.FunFrames X.base X.outer
  frf : ∀ b ∈ X.fs, X.H₀ b = none

structure Inv (X : Cx) (pins : List (Addr × Obj)) (σ : List (Option V)) (H : Hp) (s : Shared) : Prop where
  ok : X.Ok
  os : s.os = X.s₀.os
  bare : AllBare s.gens
  base : Un X.fs X.ex X.H₀ H X.s₀.heap s.heap
  loc : ∃ m, s.heap.Ns X.env.locals m ∧ ∀ (i : Nat) (x : Str) (v : V), X.N[i]? = some x → σ[i]? = some (some v) → Vis X.env.scope x → ∃ u, RelV v u ∧ Look X.env s.heap m x u
  cell : ∀ x c, X.env.cells.lookup x = some c → ∃ v, s.heap.IsCell c v
  free : H X.env.locals = none
  freeC : ∀ x c, X.env.cells.lookup x = some c → H c = none
  pin : ∀ p ∈ X.pn ++ pins, s.heap.get? p.1 = some p.2 ∧ H p.1 = none ∧ p.1 ≠ X.env.locals ∧ p.1 ∉ X.fs ∧ ∀ v, p.2.data ≠ .cell v
  hok : HOk X.prog X.w H s.heap
  len : σ.length = X.N.length

section
variable {X : Cx} {pins : List (Addr × Obj)} {σ : List (Option V)} {H H' : Hp} {s : Shared} {h' : Heap}

theorem Cx.Ok.nofr (ok : X.Ok) {b : Addr} {o : Obj} (e : X.base.get? b = some o) : b ∉ X.fs := fun hb => by
  have := (ok.funs.mem hb).1
  rw [e] at this; cases this
theorem Inv.bs (I : Inv X pins σ H s) : ∀ b o, X.base.get? b = some o → s.heap.get? b = some o ∧ H b = none := fun b o e =>
  ⟨I.base.keep b o (I.ok.bs b o e).1 (I.ok.bs b o e).2 (I.ok.nofr e) (I.ok.noex b o e), I.base.free b o (I.ok.bs b o e).1 (I.ok.bs b o e).2 (I.ok.noex b o e)⟩
theorem Inv.bk (I : Inv X pins σ H s) : ∀ b o, X.base.get? b = some o → s.heap.get? b = some o := fun b o e => (I.bs b o e).1
theorem Inv.mod (I : Inv X pins σ H s) : Mod X.K X.mg X.base := I.ok.mod
theorem Inv.kIn (I : Inv X pins σ H s) : X.K.In s.heap := I.ok.mod.kin.keeps I.bk
theorem Inv.nolimit (I : Inv X pins σ H s) : s.heap.NoLimit := I.ok.mod.nolimit.keeps I.bk
/-- the frame over the base: for OpenK's rules (K.In X.base is I.mod.kin) -/
theorem Inv.fr (I : Inv X pins σ H s) : ∃ m, Fr X.base X.env.locals s.heap m :=
  let ⟨m, hn, _⟩ := I.loc
  ⟨m, hn, I.bk, Nat.le_trans I.ok.bsz I.ok.above⟩
theorem Inv.lt (I : Inv X pins σ H s) : X.env.locals < s.heap.objs.size := let ⟨_, hn, _⟩ := I.loc; hn.lt
theorem Inv.sz (I : Inv X pins σ H s) : X.s₀.heap.objs.size ≤ s.heap.objs.size := Nat.le_trans I.ok.above (Nat.le_of_lt I.lt)
theorem Inv.nofs (I : Inv X pins σ H s) {a : Addr} (h : s.heap.objs.size ≤ a) : a ∉ X.fs := fun hb => by
  obtain ⟨_, o, ho, _⟩ := I.ok.funs.mem hb
  exact absurd (Nat.lt_of_lt_of_le (Heap.lt_size ho) (Nat.le_trans I.sz h)) (Nat.lt_irrefl _)
theorem Inv.cne (I : Inv X pins σ H s) : ∀ x c, X.env.cells.lookup x = some c → c ≠ X.env.locals := fun x c e z => by
  obtain ⟨v, o, ho, hd⟩ := I.cell x c e
  obtain ⟨m, ⟨o', es, ep, ho', hd', _⟩, _⟩ := I.loc
  rw [z, ho'] at ho; cases ho; rw [hd'] at hd; cases hd
theorem Inv.funs (I : Inv X pins σ H s) : s.heap.FunFrames X.base X.outer := by
  have all : ∀ (l : List Env), (∀ b ∈ frs l, b ∈ X.fs) → X.s₀.heap.FunFrames X.base l → s.heap.FunFrames X.base l := by
    intro l
    induction l with
    | nil => intro _ _; trivial
    | cons env r ih =>
      intro hs hl
      obtain ⟨hk, ⟨L, o, hf, hn, ho, hd⟩, hr⟩ := hl
      have hL : L ∈ X.fs := hs L (by unfold frs; rw [List.filterMap_cons, hf]; exact List.mem_cons_self)
      obtain ⟨sl, e⟩ := I.base.slot L o ho (I.ok.frf L hL) hL fun z => I.ok.exfs L z hL
      exact ⟨hk, ⟨L, _, hf, hn, e, hd⟩, ih (fun b hb => hs b (by unfold frs; rw [List.filterMap_cons, hf]; exact List.mem_cons_of_mem _ hb)) hr⟩
  exact all X.outer (fun _ hb => hb) I.ok.funs

/-- the frames that run, for a call -/
theorem Inv.stack (I : Inv X pins σ H s) : s.heap.FunFrames X.base X.stack := by
  rcases I.ok.stk with e | ⟨e, hf⟩
  · rw [e]; exact I.funs
  · rw [e]
    obtain ⟨m, hn, _⟩ := I.loc
    refine .cons (by rw [I.ok.kind]; decide) hf hn ?_ I.funs
    exact Heap.get?_none_of_le (Nat.le_trans I.ok.bsz I.ok.above)
theorem Inv.stkSub (I : Inv X pins σ H s) : ∀ b ∈ frs X.stack, b ∈ X.env.locals :: X.fs := fun b hb => by
  rcases I.ok.stk with e | ⟨e, hf⟩
  · rw [e] at hb; exact List.mem_cons_of_mem _ hb
  · rw [e] at hb
    unfold frs at hb
    rw [List.filterMap_cons, hf] at hb
    exact hb
theorem Inv.stkFree (I : Inv X pins σ H s) : ∀ b ∈ frs X.stack, H b = none := fun b hb => by
  rcases List.mem_cons.mp (I.stkSub b hb) with e | hb
  · rw [e]; exact I.free
  · obtain ⟨_, o, ho, _⟩ := I.ok.funs.mem hb
    exact I.base.free b o ho (I.ok.frf b hb) fun z => I.ok.exfs b z hb

/-- THE STEP: the untracked objects but the frame and the records at ch are kept (the callers' frames up to slots), the frame's map is kept, the new abstract heap is held -/
theorem Inv.step {g' : Array GenState} {t' : Nat} {d' : Drawn} {ch : List Addr} (I : Inv X pins σ H s)
    (hch : ∀ b ∈ ch, (b ∈ X.ex ∨ X.s₀.heap.objs.size ≤ b) ∧ b ≠ X.env.locals ∧ (∀ x c, X.env.cells.lookup x = some c → c ≠ b) ∧ ∀ p ∈ X.pn ++ pins, p.1 ≠ b)
    (keep : ∀ b o, b ≠ X.env.locals → b ∉ X.fs → b ∉ ch → s.heap.get? b = some o → H b = none → h'.get? b = some o)
    (slot : ∀ b o, b ≠ X.env.locals → b ∈ X.fs → b ∉ ch → s.heap.get? b = some o → H b = none → ∃ sl, h'.get? b = some { o with slots := sl }) (free : ∀ b o, b ∉ ch → s.heap.get? b = some o → H b = none → H' b = none)
    (there : ∀ b o, b ∉ ch → s.heap.get? b = some o → ∃ o', h'.get? b = some o')
    (tups : ∀ b xs, H b = some (.tup xs) → H' b = some (.tup xs)) (frzs : ∀ b o u, H b = some (.frz o u) → H' b = some (.frz o u)) (tbls : ∀ b ps, H b = some (.tbl ps) → ∃ more, H' b = some (.tbl (ps ++ more)))
    (ns : ∀ m, s.heap.Ns X.env.locals m → h'.Ns X.env.locals m) (hok : HOk X.prog X.w H' h') (hg : AllBare g') :
    Inv X pins σ H' { s with heap := h', gens := g', drawn := d', toks := t' } := by
  have neL : ∀ b o, X.s₀.heap.get? b = some o → b ≠ X.env.locals := fun b o e => Nat.ne_of_lt (Nat.lt_of_lt_of_le (Heap.lt_size e) I.ok.above)
  have neC : ∀ b o, X.s₀.heap.get? b = some o → b ∉ X.ex → b ∉ ch := fun b o e hx hb => by
    rcases (hch b hb).1 with z | z
    · exact hx z
    · exact absurd (Nat.lt_of_lt_of_le (Heap.lt_size e) z) (Nat.lt_irrefl _)
  have cellK : ∀ x c, X.env.cells.lookup x = some c → ∀ v, s.heap.IsCell c v → h'.IsCell c v := fun x c e v ⟨o, ho, hd⟩ => by
    have nch : c ∉ ch := fun z => (hch c z).2.2.1 x c e rfl
    by_cases hc : c ∈ X.fs
    · obtain ⟨sl, q⟩ := slot c o (I.cne x c e) hc nch ho (I.freeC x c e)
      exact ⟨_, q, hd⟩
    · exact ⟨o, keep c o (I.cne x c e) hc nch ho (I.freeC x c e), hd⟩
  refine ⟨I.ok, I.os, hg, ⟨fun b o e n hb hx => ?_, fun b o e n hb hx => ?_, fun b o e n hx => ?_, fun b o e hx => ?_, fun b xs e => tups b xs (I.base.tups b xs e), fun b o xs e => frzs b o xs (I.base.frzs b o xs e), fun b ps e => ?_⟩, ?_, fun x c e => ?_, ?_, fun x c e => ?_, fun p hp => ?_, hok, I.len⟩
  · exact keep b o (neL b o e) hb (neC b o e hx) (I.base.keep b o e n hb hx) (I.base.free b o e n hx)
  · obtain ⟨sl, e1⟩ := I.base.slot b o e n hb hx
    obtain ⟨sl', e2⟩ := slot b _ (neL b o e) hb (neC b o e hx) e1 (I.base.free b o e n hx)
    exact ⟨sl', e2⟩
  · obtain ⟨o', e1⟩ := I.base.there b o e hx
    exact free b o' (neC b o e hx) e1 (I.base.free b o e n hx)
  · obtain ⟨o', e1⟩ := I.base.there b o e hx
    exact there b o' (neC b o e hx) e1
  · obtain ⟨m1, e1⟩ := I.base.tbls b ps e
    obtain ⟨m2, e2⟩ := tbls b _ e1
    exact ⟨m1 ++ m2, by rw [e2, Array.append_assoc]⟩
  · obtain ⟨m, hn, hl⟩ := I.loc
    refine ⟨m, ns m hn, fun i x v e1 e2 e3 => ?_⟩
    obtain ⟨u, r, l⟩ := hl i x v e1 e2 e3
    refine ⟨u, r, ?_⟩
    rcases l with l | ⟨k, c, e, z⟩
    · exact .inl l
    · exact .inr ⟨k, c, e, cellK x c e _ z⟩
  · obtain ⟨v, z⟩ := I.cell x c e
    exact ⟨v, cellK x c e v z⟩
  · obtain ⟨m, ⟨o, _, _, ho, _⟩, _⟩ := I.loc
    exact free _ o (fun z => (hch _ z).2.1 rfl) ho I.free
  · obtain ⟨v, o, ho, hd⟩ := I.cell x c e
    exact free c o (fun z => (hch c z).2.2.1 x c e rfl) ho (I.freeC x c e)
  · obtain ⟨e, n, ne, nf, d⟩ := I.pin p hp
    have nch : p.1 ∉ ch := fun z => (hch p.1 z).2.2.2 p hp rfl
    exact ⟨keep p.1 p.2 ne nf nch e n, free p.1 p.2 nch e n, ne, nf, d⟩
/-- .. where the frame's own object is kept too -/
theorem Inv.un {t' : Nat} (I : Inv X pins σ H s) (u : Un X.fs [] H H' s.heap h') (hok : HOk X.prog X.w H' h') : Inv X pins σ H' { s with heap := h', toks := t' } := by
  obtain ⟨m, ⟨o, es, ep, ho, r⟩, _⟩ := id I.loc
  obtain ⟨sl, hL⟩ := u.any ho I.free (by simp)
  exact I.step (g' := s.gens) (d' := s.drawn) (ch := []) (fun _ z => nomatch z) (fun b o _ hb _ e n => u.keep b o e n hb (by simp)) (fun b o _ hb _ e n => u.slot b o e n hb (by simp)) (fun b o _ e n => u.free b o e n (by simp)) (fun b o _ e => u.there b o e (by simp)) u.tups u.frzs u.tbls (fun m' hm => by
    obtain ⟨o', es', ep', ho', r'⟩ := hm
    rw [ho] at ho'; cases ho'
    exact ⟨_, es', ep', hL, r'⟩) hok I.bare
/-- behind a call (or a comprehension's block): the slots of this frame may have changed too, the records at ch may have turned -/
theorem Inv.call {g' : Array GenState} {t' : Nat} {d' : Drawn} {ch : List Addr} (I : Inv X pins σ H s) (u : Un (frs X.stack) ch H H' s.heap h') (hok : HOk X.prog X.w H' h') (hg : AllBare g')
    (hch : ∀ b ∈ ch, (b ∈ X.ex ∨ X.s₀.heap.objs.size ≤ b) ∧ b ≠ X.env.locals ∧ (∀ x c, X.env.cells.lookup x = some c → c ≠ b) ∧ ∀ p ∈ X.pn ++ pins, p.1 ≠ b) :
    Inv X pins σ H' { s with heap := h', gens := g', drawn := d', toks := t' } := by
  obtain ⟨m, ⟨o, es, ep, ho, r⟩, _⟩ := id I.loc
  obtain ⟨sl, hL⟩ := u.any ho I.free fun z => (hch _ z).2.1 rfl
  exact I.step (ch := ch) hch (fun b o hL hb hc e n => u.keep b o e n (fun z => (List.mem_cons.mp (I.stkSub b z)).elim hL hb) hc) (fun b o _ _ hc e n => u.any e n hc) (fun b o hc e n => u.free b o e n hc) (fun b o hc e => u.there b o e hc) u.tups u.frzs u.tbls (fun m' hm => by
    obtain ⟨o', es', ep', ho', r'⟩ := hm
    rw [ho] at ho'; cases ho'
    exact ⟨_, es', ep', hL, r'⟩) hok hg
/-- an untracked record of ours (an iterator) has turned -/
theorem Inv.turned {t' : Nat} {it : Addr} (I : Inv X pins σ H s) (k : ∀ b o, b ≠ it → s.heap.get? b = some o → h'.get? b = some o) (hn : H it = none) (hL : it ≠ X.env.locals)
    (h1 : it ∈ X.ex ∨ X.s₀.heap.objs.size ≤ it) (h2 : ∀ x c, X.env.cells.lookup x = some c → c ≠ it) (h3 : ∀ p ∈ X.pn ++ pins, p.1 ≠ it) : Inv X pins σ H { s with heap := h', toks := t' } := by
  have nit : ∀ b u, H b = some u → b ≠ it := fun b u e z => by rw [z, hn] at e; cases e
  refine I.step (g' := s.gens) (d' := s.drawn) (ch := [it]) (fun b hb => ?_) (fun b o _ _ hc e _ => k b o (fun z => hc (by simp [z])) e) (fun b o _ _ hc e _ => ⟨o.slots, k b o (fun z => hc (by simp [z])) e⟩) (fun _ _ _ _ n => n)
    (fun b o hc e => ⟨o, k b o (fun z => hc (by simp [z])) e⟩) (fun _ _ e => e) (fun _ _ _ e => e) (fun b ps e => ⟨#[], by rw [e]; simp⟩) (fun m hm => ?_) (fun b u e => ?_) I.bare
  · have e : b = it := by simpa using hb
    subst e
    exact ⟨h1, hL, h2, h3⟩
  · obtain ⟨o, es, ep, ho, r⟩ := hm
    exact ⟨o, es, ep, k _ o (Ne.symm hL) ho, r⟩
  · refine (I.hok b u e).stay (fun c v hc q => k c v ?_ q) (fun _ q => q) fun _ _ q => q
    rcases hc with z | z
    · rw [z]; exact nit b u e
    · exact nit c _ z
theorem Inv.tok (I : Inv X pins σ H s) (t : Nat) : Inv X pins σ H { s with toks := t } := I.un (h' := s.heap) (t' := t) Un.refl I.hok
/-- all objects kept -/
theorem Inv.kept {t' : Nat} (I : Inv X pins σ H s) (k : ∀ b u, s.heap.get? b = some u → h'.get? b = some u) : Inv X pins σ H { s with heap := h', toks := t' } := I.un (Un.kept k) (I.hok.kept k)
/-- a new object laid and tracked -/
theorem Inv.laid {a : Addr} {o : HO} {t' : Nat} (I : Inv X pins σ H s) (k : ∀ b u, s.heap.get? b = some u → h'.get? b = some u) (hp : s.heap.objs.size ≤ a) (new : ObjOk X.prog X.w (upd H a o) h' a o) :
    Inv X pins σ (upd H a o) { s with heap := h', toks := t' } := I.un (Un.laid k hp (I.hok.fresh hp)) (I.hok.laid k hp new)
/-- an object written -/
theorem Inv.write {x e : Addr} {o : HO} {t' : Nat} (I : Inv X pins σ H s) (mu : Mut (H x)) (he : e = x ∨ H e = some (.own x)) (k : ∀ b u, b ≠ e → s.heap.get? b = some u → h'.get? b = some u) (heo : ∃ u, h'.get? e = some u)
    (new : ObjOk X.prog X.w (upd H x o) h' x o) : Inv X pins σ (upd H x o) { s with heap := h', toks := t' } := I.un (Un.write mu he k heo) (I.hok.write mu he k heo new)
/-- forgetting slots, pins -/
theorem Inv.weak {σ' : List (Option V)} (I : Inv X pins σ H s) (hl : σ'.length = σ.length) (w : ∀ (i : Nat) v, σ'[i]? = some (some v) → σ[i]? = some (some v)) : Inv X pins σ' H s :=
  ⟨I.ok, I.os, I.bare, I.base, let ⟨m, hn, hl'⟩ := I.loc; ⟨m, hn, fun i x v e1 e2 e3 => hl' i x v e1 (w i v e2) e3⟩, I.cell, I.free, I.freeC, I.pin, I.hok, hl.trans I.len⟩
theorem Inv.pins_of {pins' : List (Addr × Obj)} (I : Inv X pins σ H s) (h : ∀ p ∈ pins', s.heap.get? p.1 = some p.2 ∧ H p.1 = none ∧ p.1 ≠ X.env.locals ∧ p.1 ∉ X.fs ∧ ∀ v, p.2.data ≠ .cell v) : Inv X pins' σ H s :=
  ⟨I.ok, I.os, I.bare, I.base, I.loc, I.cell, I.free, I.freeC, fun p hp => (List.mem_append.mp hp).elim (fun z => I.pin p (List.mem_append_left _ z)) (h p), I.hok, I.len⟩

theorem nodup_ix {N : List Str} (hN : N.Nodup) {i j : Nat} {x : Str} (a : N[i]? = some x) (b : N[j]? = some x) : i = j := by
  obtain ⟨h1, e1⟩ := List.getElem?_eq_some_iff.mp a
  obtain ⟨h2, e2⟩ := List.getElem?_eq_some_iff.mp b
  exact (List.getElem_inj hN).mp (e1.trans e2.symm)

/-- a name is stored; what changed -/
theorem store_ok2 {M : Model} {A : Around} {E : Value → Shared → Prop} {i : Nat} {x : Str} {v : V} {u : Value} {Q : Unit → Shared → Prop} (I : Inv X pins σ H s) (hN : X.N.Nodup) (hi : X.N[i]? = some x) (hx : Loc X.env.scope x) (r : RelV v u)
    (h : ∀ s', Inv X pins (σ.set i (some v)) H s' → (∃ a, Heap.SameBut a s.heap s'.heap ∧ (a = X.env.locals ∨ X.env.cells.lookup x = some a)) → Q () s') (hf : X.fn x = true ∨ X.env.scope.names.lookup x = some .local := by first | exact .inl rfl | exact .inr rfl | assumption) : wpAny M A (storeName X.env x u) Q E s := by
  obtain ⟨m, hn, hl⟩ := id I.loc
  have hcls : (X.env.scope.kind == .class || (X.env.scope.kind == .module && X.env.locals != X.env.globals)) = false := by rw [I.ok.kind]; rfl
  have hiσ : i < σ.length := by rw [I.len]; exact (List.getElem?_eq_some_iff.mp hi).1
  have cne := I.cne
  have tracked : ∀ {a : Addr} {h' : Heap}, (∃ o, s.heap.get? a = some o ∧ H a = none) → Heap.SameBut a s.heap h' → HOk X.prog X.w H h' := fun {a h'} ha hs b ob e => by
    obtain ⟨_, _, hfree⟩ := ha
    refine (I.hok b ob e).stay (fun c w' hc q => (hs.2 c ?_).trans q) (fun _ q => q) fun _ _ q => q
    rintro rfl
    rcases hc with rfl | hc
    · rw [hfree] at e; cases e
    · rw [hfree] at hc; cases hc
  rcases hx with hk | hk
  · refine wpAny_storeName_local hk hn (fun h' hn' hs => ?_) hcls
    obtain ⟨oL, _, _, hoL, _⟩ := id hn
    refine h _ ⟨I.ok, I.os, I.bare, ⟨fun b o e n hb hx => ?_, fun b o e n hb hx => ?_, I.base.free, fun b o e hx => ?_, I.base.tups, I.base.frzs, I.base.tbls⟩, ⟨_, hn', fun j y v' e1 e2 e3 => ?_⟩, fun y c e => ?_, I.free, I.freeC, fun p hp => ?_, tracked ⟨oL, hoL, I.free⟩ hs, by simpa using I.len⟩ ⟨_, hs, .inl rfl⟩
    · exact (hs.2 b (Nat.ne_of_lt (Nat.lt_of_lt_of_le (Heap.lt_size e) I.ok.above))).trans (I.base.keep b o e n hb hx)
    · obtain ⟨sl, e1⟩ := I.base.slot b o e n hb hx
      exact ⟨sl, (hs.2 b (Nat.ne_of_lt (Nat.lt_of_lt_of_le (Heap.lt_size e) I.ok.above))).trans e1⟩
    · obtain ⟨o', e1⟩ := I.base.there b o e hx
      exact ⟨o', (hs.2 b (Nat.ne_of_lt (Nat.lt_of_lt_of_le (Heap.lt_size e) I.ok.above))).trans e1⟩
    · by_cases hj : j = i
      · subst hj
        rw [hi] at e1; cases e1
        rw [List.getElem?_set_self hiσ] at e2
        cases e2
        exact ⟨u, r, .inl ⟨hk, by simp⟩⟩
      · rw [List.getElem?_set_ne (Ne.symm hj)] at e2
        obtain ⟨u', r', q⟩ := hl j y v' e1 e2 e3
        refine ⟨u', r', ?_⟩
        rcases q with ⟨k, e⟩ | ⟨k, c, e, z⟩
        · refine .inl ⟨k, ?_⟩
          have : y ≠ x := fun e => hj (nodup_ix hN e1 (e ▸ hi))
          simp [this, e]
        · exact .inr ⟨k, c, e, z.sameBut hs (cne y c e)⟩
    · obtain ⟨w', z⟩ := I.cell y c e
      exact ⟨w', z.sameBut hs (cne y c e)⟩
    · obtain ⟨e, n, ne, nf, d⟩ := I.pin p hp
      exact ⟨(hs.2 p.1 ne).trans e, n, ne, nf, d⟩
  · have hfn : X.fn x = true := by
      rcases hf with z | z
      · exact z
      · rw [z] at hk; cases hk
    obtain ⟨c, hc⟩ := I.ok.has x (.inl hk)
    obtain ⟨w', z⟩ := I.cell x c hc
    refine wpAny_storeName_cell I.ok.kind hk hc z (fun h' hc' hs => ?_)
    obtain ⟨oc, hoc, hocd⟩ := id z
    refine h { s with heap := h' } ⟨I.ok, I.os, I.bare, ⟨fun b o e n hb hx => ?_, fun b o e n hb hx => ?_, I.base.free, fun b o e hx => ?_, I.base.tups, I.base.frzs, I.base.tbls⟩, ⟨m, hn.sameBut hs (Ne.symm (cne x c hc)), fun j y v' e1 e2 e3 => ?_⟩, fun y c' e => ?_, I.free, I.freeC, fun p hp => ?_, tracked ⟨oc, hoc, I.freeC x c hc⟩ hs, by simpa using I.len⟩ ⟨c, hs, .inr hc⟩
    · exact (hs.2 b (Nat.ne_of_lt (Nat.lt_of_lt_of_le (Heap.lt_size e) (I.ok.cab x c hfn hc)))).trans (I.base.keep b o e n hb hx)
    · obtain ⟨sl, e1⟩ := I.base.slot b o e n hb hx
      exact ⟨sl, (hs.2 b (Nat.ne_of_lt (Nat.lt_of_lt_of_le (Heap.lt_size e) (I.ok.cab x c hfn hc)))).trans e1⟩
    · obtain ⟨o', e1⟩ := I.base.there b o e hx
      exact ⟨o', (hs.2 b (Nat.ne_of_lt (Nat.lt_of_lt_of_le (Heap.lt_size e) (I.ok.cab x c hfn hc)))).trans e1⟩
    · by_cases hj : j = i
      · subst hj
        rw [hi] at e1; cases e1
        rw [List.getElem?_set_self hiσ] at e2
        cases e2
        exact ⟨u, r, .inr ⟨.inl hk, c, hc, hc'⟩⟩
      · rw [List.getElem?_set_ne (Ne.symm hj)] at e2
        obtain ⟨u', r', q⟩ := hl j y v' e1 e2 e3
        refine ⟨u', r', ?_⟩
        rcases q with q | ⟨k, c', e, z'⟩
        · exact .inl q
        · refine .inr ⟨k, c', e, z'.sameBut hs ?_⟩
          rintro rfl
          exact hj (nodup_ix hN e1 (I.ok.inj _ _ _ e hc ▸ hi))
    · by_cases hcc : c' = c
      · subst hcc; exact ⟨_, hc'⟩
      · obtain ⟨w2, z2⟩ := I.cell y c' e
        exact ⟨w2, z2.sameBut hs hcc⟩
    · obtain ⟨e, n, ne, nf, d⟩ := I.pin p hp
      refine ⟨(hs.2 p.1 ?_).trans e, n, ne, nf, d⟩
      intro q
      rw [q, hoc] at e
      have q' : oc = p.2 := Option.some.inj e
      exact d w' (by rw [← q']; exact hocd)
theorem store_ok {M : Model} {A : Around} {E : Value → Shared → Prop} {i : Nat} {x : Str} {v : V} {u : Value} {Q : Unit → Shared → Prop} (I : Inv X pins σ H s) (hN : X.N.Nodup) (hi : X.N[i]? = some x) (hx : Loc X.env.scope x) (r : RelV v u)
    (h : ∀ s', Inv X pins (σ.set i (some v)) H s' → Q () s') (hf : X.fn x = true ∨ X.env.scope.names.lookup x = some .local := by first | exact .inl rfl | exact .inr rfl | assumption) : wpAny M A (storeName X.env x u) Q E s :=
  store_ok2 I hN hi hx r (fun s' I' _ => h s' I') hf
/-- behind a call or a block, the state as it is -/
theorem Inv.call' {s' : Shared} {ch : List Addr} (I : Inv X pins σ H s) (ho : s'.os = s.os) (u : Un (frs X.stack) ch H H' s.heap s'.heap) (hok : HOk X.prog X.w H' s'.heap) (hg : AllBare s'.gens)
    (hch : ∀ b ∈ ch, (b ∈ X.ex ∨ X.s₀.heap.objs.size ≤ b) ∧ b ≠ X.env.locals ∧ (∀ x c, X.env.cells.lookup x = some c → c ≠ b) ∧ ∀ p ∈ X.pn ++ pins, p.1 ≠ b) : Inv X pins σ H' s' := by
  obtain ⟨h', g', d', t', o'⟩ := s'
  have e : o' = s.os := ho
  subst e
  exact I.call (g' := g') (t' := t') (d' := d') u hok hg hch
end

/-! ### the judgements -/
/-- an exception: its class, its own dict's address (where it has one), the abstract heap behind it -/
abbrev XK := Value → Option Addr → Hp → Prop
abbrev St := List (Option V)
abbrev VK := V → Hp → Prop
/-- an expression's reading; a test's; an argument list's -/
abbrev TE := St → Hp → VK → Prop
abbrev TT := St → Hp → (Bool → Hp → Prop) → Prop
abbrev TA := St → Hp → (List V → Hp → Prop) → Prop
/-- what is wanted behind a statement -/
structure Ends where
  nx : St → Hp → Prop
  rt : VK
  bk : St → Hp → Prop := fun _ _ => False
  ct : St → Hp → Prop := fun _ _ => False
abbrev TS := Ends → St → Hp → Prop

def EP (X : Cx) (pins : List (Addr × Obj)) (σ : St) (Q : VK) (u : Value) (s' : Shared) : Prop := ∃ v H', Inv X pins σ H' s' ∧ RelV v u ∧ Q v H'
def TP (X : Cx) (pins : List (Addr × Obj)) (σ : St) (Q : Bool → Hp → Prop) (b : Bool) (s' : Shared) : Prop := ∃ H', Inv X pins σ H' s' ∧ Q b H'
def AP (X : Cx) (pins : List (Addr × Obj)) (σ : St) (Q : List V → Hp → Prop) (us : List Value) (s' : Shared) : Prop := ∃ vs H', Inv X pins σ H' s' ∧ Vals vs us ∧ Q vs H'
def SP (X : Cx) (pins : List (Addr × Obj)) (D : Ends) (f : Flow) (s' : Shared) : Prop :=
  match f with
  | .next => ∃ σ' H', Inv X pins σ' H' s' ∧ D.nx σ' H'
  | .brk => ∃ σ' H', Inv X pins σ' H' s' ∧ D.bk σ' H'
  | .cont => ∃ σ' H', Inv X pins σ' H' s' ∧ D.ct σ' H'
  | .ret u => ∃ v σ' H', Inv X pins σ' H' s' ∧ RelV v u ∧ D.rt v H'

def PE (X : Cx) (e : Expr) (t : TE) : Prop :=
  ∀ (pins : List (Addr × Obj)) (s : Shared) (σ : St) (H : Hp) (Q : VK), Inv X pins σ H s → t σ H Q → wpAny (model X.prog X.w) X.A (eval e X.env) (EP X pins σ Q) X.xe s
def PT (X : Cx) (e : Expr) (t : TT) : Prop :=
  ∀ (pins : List (Addr × Obj)) (s : Shared) (σ : St) (H : Hp) (Q : Bool → Hp → Prop), Inv X pins σ H s → t σ H Q → wpAny (model X.prog X.w) X.A (isTrue e X.env (eval e X.env)) (TP X pins σ Q) X.xe s
/-- a test whatever its 'whole' is (and, or) -/
def PW (X : Cx) (e : Expr) (t : TT) : Prop :=
  ∀ (whole : Sem Value) (pins : List (Addr × Obj)) (s : Shared) (σ : St) (H : Hp) (Q : Bool → Hp → Prop), Inv X pins σ H s → t σ H Q → wpAny (model X.prog X.w) X.A (isTrue e X.env whole) (TP X pins σ Q) X.xe s
theorem PW.pt {X : Cx} {e : Expr} {t : TT} (h : PW X e t) : PT X e t := h _
/-- an argument list (no star), from the left -/
def PA (X : Cx) (es : List Expr) (t : TA) : Prop :=
  ∀ (pos : Pos) (pins : List (Addr × Obj)) (s : Shared) (σ : St) (H : Hp) (Q : List V → Hp → Prop), Inv X pins σ H s → t σ H Q → wpAny (model X.prog X.w) X.A (spliced (backTo pos (starEach es X.env))) (AP X pins σ Q) X.xe s
def PS (X : Cx) (st : Stmt) (t : TS) : Prop :=
  ∀ (pins : List (Addr × Obj)) (s : Shared) (σ : St) (H : Hp) (D : Ends), Inv X pins σ H s → t D σ H → wpAny (model X.prog X.w) X.A (exec st X.env) (SP X pins D) X.xe s
def PSs (X : Cx) (st : List Stmt) (t : TS) : Prop :=
  ∀ (pins : List (Addr × Obj)) (s : Shared) (σ : St) (H : Hp) (D : Ends), Inv X pins σ H s → t D σ H → wpAny (model X.prog X.w) X.A (execs st X.env) (SP X pins D) X.xe s
/-- weaken the end -/
theorem thn {α : Type} {t : Sem α} {Q Q' : α → Shared → Prop} {M : Model} {A : Around} {E : Value → Shared → Prop} {s : Shared} (h : wpAny M A t Q E s) (hQ : ∀ a s, Q a s → Q' a s) : wpAny M A t Q' E s := wpAny_mono h hQ fun _ _ x => x
end L2

namespace L2
open PySem PySem.Spec PyProof.Rows
section
variable {X : Cx}

/-- two expressions in a row -/
theorem bin {a b : Expr} {ta tb : TE} (ha : PE X a ta) (hb : PE X b tb) {pins : List (Addr × Obj)} {s : Shared} {σ : St} {H : Hp} {R : V → V → Hp → Prop} (I : Inv X pins σ H s) (h : ta σ H fun x H1 => tb σ H1 fun y H2 => R x y H2)
    {α : Type} {Q : α → Shared → Prop} {f : Value → Value → Sem α}
    (hf : ∀ v u s2 x y H2, Inv X pins σ H2 s2 → RelV x v → RelV y u → R x y H2 → wpAny (model X.prog X.w) X.A (f v u) Q X.xe s2) :
    wpAny (model X.prog X.w) X.A (eval a X.env) (fun v s₁ => wpAny (model X.prog X.w) X.A (eval b X.env) (fun u s₂ => wpAny (model X.prog X.w) X.A (f v u) Q X.xe s₂) X.xe s₁) X.xe s := by
  refine thn (ha pins s σ H _ I h) fun v s1 ⟨x, H1, I1, r1, q1⟩ => ?_
  refine thn (hb pins s1 σ H1 _ I1 q1) fun u s2 ⟨y, H2, I2, r2, q2⟩ => ?_
  exact hf v u s2 x y H2 I2 r1 r2 q2

/-! ### names and constants -/
def tVar (i : Nat) : TE := fun σ H Q => ∃ v, σ[i]? = some (some v) ∧ Q v H
def tC (v : V) : TE := fun _ H Q => Q v H
theorem pe_var {i : Nat} {x : Str} {pos : Pos} (hN : X.N[i]? = some x) (hv : Vis X.env.scope x) (hd : (x == ("__debug__" : Str)) = false := by decide) (hcd : (x == ("__classdict__" : Str)) = false := by decide) : PE X (.Name x pos) (tVar i) := by
  intro pins s σ H Q I h
  obtain ⟨v, e, h⟩ := h
  obtain ⟨m, hn, hl⟩ := I.loc
  obtain ⟨u, r, l⟩ := hl i x v hN e hv
  have fin : EP X pins σ Q u s := ⟨v, H, I, r, h⟩
  rcases l with ⟨hk, hm⟩ | ⟨hk, c, hc, hcell⟩
  · exact wpAny_Name (wpAny_loadName_local I.ok.kind hk hn hm fin) hd
  · rcases hk with hk | hk
    · exact wpAny_Name (wpAny_loadName_cell I.ok.kind hk hc hcell fin) hd
    · exact wpAny_Name (wpAny_loadName_free I.ok.kind hk hc hcell fin hcd) hd
theorem pe_int {i j pos} : PE X (.Constant (.int i) j pos) (tC (.int i)) := fun _ _ _ H _ I h => wpAny_Constant_int ⟨.int i, H, I.tok _, ⟨_, rfl⟩, h⟩
theorem pe_bl {b j pos} : PE X (.Constant (.bool b) j pos) (tC (.bl b)) := fun _ _ _ H _ I h => Constant_bool ⟨.bl b, H, I, rfl, h⟩
theorem pe_non {j pos} : PE X (.Constant .none j pos) (tC .non) := fun _ _ _ H _ I h => Constant_none ⟨.non, H, I, rfl, h⟩
theorem pe_str {x j pos} : PE X (.Constant (.str x) j pos) (tC (.str x)) := fun _ _ _ H _ I h => Calls.Constant_str ⟨.str x, H, I.tok _, ⟨_, rfl⟩, h⟩

/-- a global name of the def -/
def Gl (X : Cx) (x : Str) : Prop := X.env.kindOf x = some .globalImplicit
theorem ld_glob {E : Value → Shared → Prop} {pins : List (Addr × Obj)} {s : Shared} {σ : St} {H : Hp} {x : Str} {u : Value} {pos : Pos} {Q : Value → Shared → Prop} (I : Inv X pins σ H s) (hg : Gl X x) (hm : X.mg x = some u) (h : Q u s)
    (hd : (x == ("__debug__" : Str)) = false := by decide) : wpAny (model X.prog X.w) X.A (eval (.Name x pos) X.env) Q E s :=
  Calls.Name_function_global I.ok.kind hg (Calls.loadGlobal_global (by rw [I.ok.glob]; exact I.mod.glob.keeps I.bk) hm h) hd
theorem ld_blt {E : Value → Shared → Prop} {pins : List (Addr × Obj)} {s : Shared} {σ : St} {H : Hp} {x : Str} {u : Value} {pos : Pos} {Q : Value → Shared → Prop} (I : Inv X pins σ H s) (hg : Gl X x) (hm : X.mg x = none) (hv : bootBuiltins x = some u) (h : Q u s)
    (hn : x ≠ "__name__" := by decide) (hd : (x == ("__debug__" : Str)) = false := by decide) : wpAny (model X.prog X.w) X.A (eval (.Name x pos) X.env) Q E s := by
  obtain ⟨mb, h1, h2⟩ := I.mod.blt
  exact Calls.Name_function_global I.ok.kind hg (Calls.loadGlobal_builtin (by rw [I.ok.glob]; exact I.mod.glob.keeps I.bk) hm (by rw [I.ok.blt]; exact h1.keeps I.bk) ((h2 x hn).trans hv) h) hd
/-- a module's constant, a class, a function, as a value -/
theorem pe_glob {x : Str} {v : V} {u : Value} {pos : Pos} (hg : Gl X x) (hm : X.mg x = some u) (r : RelV v u) (hd : (x == ("__debug__" : Str)) = false := by decide) : PE X (.Name x pos) (tC v) :=
  fun _ _ _ H _ I h => ld_glob I hg hm ⟨v, H, I, r, h⟩ hd
theorem pe_bltn {x : Str} {v : V} {u : Value} {pos : Pos} (hg : Gl X x) (hm : X.mg x = none) (hv : bootBuiltins x = some u) (r : RelV v u) (hn : x ≠ "__name__" := by decide) (hd : (x == ("__debug__" : Str)) = false := by decide) : PE X (.Name x pos) (tC v) :=
  fun _ _ _ H _ I h => ld_blt I hg hm hv ⟨v, H, I, r, h⟩ hn hd

/-! ### arithmetic -/
/-- two ints -/
def t2I (ta tb : TE) (k : Int → Int → Hp → Prop) : St → Hp → Prop := fun σ H => ta σ H fun x H1 => tb σ H1 fun y H2 => ∃ i j, x = .int i ∧ y = .int j ∧ k i j H2
def tAdd (ta tb : TE) : TE := fun σ H Q => t2I ta tb (fun i j H2 => Q (.int (i + j)) H2) σ H
def tSub (ta tb : TE) : TE := fun σ H Q => t2I ta tb (fun i j H2 => Q (.int (i - j)) H2) σ H
/-- the left factor below 2^64 -/
def tMul (ta tb : TE) : TE := fun σ H Q => t2I ta tb (fun i j H2 => (-(2 ^ 64) < i ∧ i < 2 ^ 64) ∧ Q (.int (i * j)) H2) σ H
variable {a b : Expr} {ta tb : TE} {pos : Pos}
theorem pe_add (ha : PE X a ta) (hb : PE X b tb) : PE X (.BinOp a .Add b pos) (tAdd ta tb) := by
  intro pins s σ H Q I h
  refine wpAny_BinOp (bin ha hb I h fun v u s2 x y H2 I2 rx ry q => ?_)
  obtain ⟨i, j, rfl, rfl, q⟩ := q
  obtain ⟨t, rfl⟩ := rx
  obtain ⟨t', rfl⟩ := ry
  exact add_int ⟨.int _, H2, I2.tok _, ⟨_, rfl⟩, q⟩
theorem pe_sub (ha : PE X a ta) (hb : PE X b tb) : PE X (.BinOp a .Sub b pos) (tSub ta tb) := by
  intro pins s σ H Q I h
  refine wpAny_BinOp (bin ha hb I h fun v u s2 x y H2 I2 rx ry q => ?_)
  obtain ⟨i, j, rfl, rfl, q⟩ := q
  obtain ⟨t, rfl⟩ := rx
  obtain ⟨t', rfl⟩ := ry
  exact sub_int ⟨.int _, H2, I2.tok _, ⟨_, rfl⟩, q⟩
theorem pe_mul (ha : PE X a ta) (hb : PE X b tb) : PE X (.BinOp a .Mult b pos) (tMul ta tb) := by
  intro pins s σ H Q I h
  refine wpAny_BinOp (bin ha hb I h fun v u s2 x y H2 I2 rx ry q => ?_)
  obtain ⟨i, j, rfl, rfl, ⟨q1, q2⟩, q⟩ := q
  obtain ⟨t, rfl⟩ := rx
  obtain ⟨t', rfl⟩ := ry
  exact mul_int ⟨.int _, H2, I2.tok _, ⟨_, rfl⟩, q⟩ (.of_left (intBits_le_64 q1 q2))

/-! ### comparisons -/
def PC (X : Cx) (op : CmpOp) (a b : Expr) (t : TE) : Prop :=
  ∀ (pins : List (Addr × Obj)) (s : Shared) (σ : St) (H : Hp) (Q : VK), Inv X pins σ H s → t σ H Q →
    wpAny (model X.prog X.w) X.A (eval a X.env) (fun v s₁ => wpAny (model X.prog X.w) X.A (eval b X.env) (fun u s₂ => wpAny (model X.prog X.w) X.A (compareOp op v u) (EP X pins σ Q) X.xe s₂) X.xe s₁) X.xe s
theorem nobehind (b : Expr) {op : CmpOp} (h : op ≠ .In) (h2 : op ≠ .NotIn) : behindInMarks op b = false := by
  have e1 : (op == CmpOp.In) = false := by cases op <;> first | rfl | exact absurd rfl h
  have e2 : (op == CmpOp.NotIn) = false := by cases op <;> first | rfl | exact absurd rfl h2
  cases b <;> simp [behindInMarks, e1, e2]
def tCmp (p : Int → Int → Bool) (ta tb : TE) : TE := fun σ H Q => t2I ta tb (fun i j H2 => Q (.bl (p i j)) H2) σ H
abbrev tLt : TE → TE → TE := tCmp fun i j => decide (i < j)
abbrev tLe : TE → TE → TE := tCmp fun i j => decide (i ≤ j)
abbrev tGt : TE → TE → TE := tCmp fun i j => decide (j < i)
abbrev tGe : TE → TE → TE := tCmp fun i j => decide (j ≤ i)
abbrev tEqI : TE → TE → TE := tCmp fun i j => decide (i = j)
abbrev tNeI : TE → TE → TE := tCmp fun i j => !decide (i = j)
/-- a comparison of two ints, by its rule -/
theorem pc_int {op : CmpOp} {p : Int → Int → Bool} (ha : PE X a ta) (hb : PE X b tb)
    (rule : ∀ (i j : Int) (t u : Tok) (Q : Value → Shared → Prop) (s : Shared), Q (.bool (p i j)) s → wpAny (model X.prog X.w) X.A (compareOp op (.int i t) (.int j u)) Q X.xe s) : PC X op a b (tCmp p ta tb) := by
  intro pins s σ H Q I h
  refine bin ha hb I h fun v u s2 x y H2 I2 rx ry q => ?_
  obtain ⟨i, j, rfl, rfl, q⟩ := q
  obtain ⟨t, rfl⟩ := rx
  obtain ⟨t', rfl⟩ := ry
  exact rule i j t t' _ s2 ⟨.bl _, H2, I2, rfl, q⟩
theorem pc_lt (ha : PE X a ta) (hb : PE X b tb) : PC X .Lt a b (tLt ta tb) := pc_int ha hb fun _ _ _ _ _ _ h => lt_int h
theorem pc_le (ha : PE X a ta) (hb : PE X b tb) : PC X .LtE a b (tLe ta tb) := pc_int ha hb fun _ _ _ _ _ _ h => le_int h
theorem pc_gt (ha : PE X a ta) (hb : PE X b tb) : PC X .Gt a b (tGt ta tb) := pc_int ha hb fun _ _ _ _ _ _ h => gt_int h
theorem pc_ge (ha : PE X a ta) (hb : PE X b tb) : PC X .GtE a b (tGe ta tb) := pc_int ha hb fun _ _ _ _ _ _ h => ge_int h
theorem pc_eqI (ha : PE X a ta) (hb : PE X b tb) : PC X .Eq a b (tEqI ta tb) := pc_int ha hb fun _ _ _ _ _ _ h => eq_int (by rw [Bool.beq_eq_decide_eq]; exact h)
theorem pc_neI (ha : PE X a ta) (hb : PE X b tb) : PC X .NotEq a b (tNeI ta tb) := pc_int ha hb fun _ _ _ _ _ _ h => ne_int (by rw [bne, Bool.beq_eq_decide_eq]; exact h)
/-- is None -/
def tIsN (ta : TE) : TE := fun σ H Q => ta σ H fun x H1 => Q (.bl (decide (x = .non))) H1
def tNotN (ta : TE) : TE := fun σ H Q => ta σ H fun x H1 => Q (.bl (!decide (x = .non))) H1
theorem RelV.none_iff {x : V} {v : Value} (r : RelV x v) : (v == Value.none) = decide (x = .non) := by
  cases x with
  | non => cases r; rfl
  | bl _ => cases r; rfl
  | int _ => obtain ⟨t, rfl⟩ := r; rfl
  | str _ => obtain ⟨t, rfl⟩ := r; rfl
  | byt _ => obtain ⟨t, rfl⟩ := r; rfl
  | flt _ => obtain ⟨t, rfl⟩ := r; rfl
  | ref _ => cases r; rfl
  | ty _ => cases r; rfl
theorem pc_isN {j pos'} (ha : PE X a ta) : PC X .Is a (.Constant .none j pos') (tIsN ta) := by
  intro pins s σ H Q I h
  refine thn (ha pins s σ H _ I h) fun v s1 ⟨x, H1, I1, r1, q1⟩ => ?_
  exact Constant_none (is_none_gen ⟨.bl _, H1, I1, by rw [r1.none_iff]; rfl, q1⟩)
theorem pc_notN {j pos'} (ha : PE X a ta) : PC X .IsNot a (.Constant .none j pos') (tNotN ta) := by
  intro pins s σ H Q I h
  refine thn (ha pins s σ H _ I h) fun v s1 ⟨x, H1, I1, r1, q1⟩ => ?_
  exact Constant_none (isnot_none_gen ⟨.bl _, H1, I1, by rw [r1.none_iff]; rfl, q1⟩)
/-- a comparison as a value, as a test -/
def tB (t : TE) : TT := fun σ H Q => t σ H fun x H1 => ∃ c, x = .bl c ∧ Q c H1
theorem pe_cmp {op : CmpOp} {t : TE} (h : PC X op a b t) (h1 : behindInMarks op b = false := by first | exact nobehind _ (by decide) (by decide) | rfl) : PE X (.Compare a [op] [b] pos) t := fun pins s σ H Q I hw => wpAny_Compare1 (h pins s σ H Q I hw) h1
theorem pt_cmp {op : CmpOp} {t : TE} (h : PC X op a b t) (h1 : behindInMarks op b = false := by first | exact nobehind _ (by decide) (by decide) | rfl) : PT X (.Compare a [op] [b] pos) (tB t) := by
  intro pins s σ H Q I hw
  refine wpAny_isTrue_Compare1 (thn (h pins s σ H _ I hw) fun v s1 h1 => thn h1 fun u s2 h2 => thn h2 fun c s3 ⟨x, H1, I1, r1, q1⟩ => ?_) h1
  obtain ⟨d, rfl, q⟩ := q1
  cases r1
  exact wpAny_truthy_bool ⟨H1, I1, q⟩
/-- an expression whose value is a bool, as a test -/
theorem pt_val {e : Expr} {t : TE} (h : PE X e t) (he : ∀ whole, isTrue e X.env whole = (do let v ← whole; standAt e.pos; holding [v] (truthy v)) := by intro _; rfl) : PT X e (tB t) := by
  intro pins s σ H Q I hw
  refine isTrue_plain (thn (h pins s σ H _ I hw) fun v s1 ⟨x, H1, I1, r1, q1⟩ => ?_) (he _)
  obtain ⟨d, rfl, q⟩ := q1
  cases r1
  exact wpAny_truthy_bool ⟨H1, I1, q⟩

/-! ### and, or, not -/
variable {tA tB' : TT} {rest : List Expr}
def tAnd (t u : TT) : TT := fun σ H Q => t σ H fun c H1 => if c = true then u σ H1 Q else Q false H1
def tOr (t u : TT) : TT := fun σ H Q => t σ H fun c H1 => if c = true then Q true H1 else u σ H1 Q
def tNot (t : TT) : TT := fun σ H Q => t σ H fun c H1 => Q (!c) H1
theorem pw_and1 (ha : PT X a tA) : PW X (.BoolOp .And [a] pos) tA := by
  intro wh pins s σ H Q I h
  refine isTrue_and (thn (ha pins s σ H Q I h) fun c s1 e => ?_)
  cases c with
  | true => exact isTrue_and_nil e
  | false => exact e
theorem pw_or1 (ha : PT X a tA) : PW X (.BoolOp .Or [a] pos) tA := by
  intro wh pins s σ H Q I h
  refine isTrue_or (thn (ha pins s σ H Q I h) fun c s1 e => ?_)
  cases c with
  | false => exact isTrue_or_nil e
  | true => exact e
theorem pw_and (ha : PT X a tA) (hb : PW X (.BoolOp .And (b :: rest) pos) tB') : PW X (.BoolOp .And (a :: b :: rest) pos) (tAnd tA tB') := by
  intro wh pins s σ H Q I h
  refine isTrue_and (thn (ha pins s σ H _ I h) fun c s1 ⟨H1, I1, q1⟩ => ?_)
  cases c with
  | true => exact hb wh pins s1 σ H1 Q I1 q1
  | false => exact ⟨H1, I1, q1⟩
theorem pw_or (ha : PT X a tA) (hb : PW X (.BoolOp .Or (b :: rest) pos) tB') : PW X (.BoolOp .Or (a :: b :: rest) pos) (tOr tA tB') := by
  intro wh pins s σ H Q I h
  refine isTrue_or (thn (ha pins s σ H _ I h) fun c s1 ⟨H1, I1, q1⟩ => ?_)
  cases c with
  | true => exact ⟨H1, I1, q1⟩
  | false => exact hb wh pins s1 σ H1 Q I1 q1
theorem pt_not (ha : PT X a tA) : PT X (.UnaryOp .Not a pos) (tNot tA) := by
  intro pins s σ H Q I h
  exact isTrue_not (ha pins s σ H (fun c H1 => Q (!c) H1) I h)
/-- .. as values (bools) -/
def tAndV (ta tb : TE) : TE := fun σ H Q => ta σ H fun x H1 => ∃ c, x = .bl c ∧ if c = true then tb σ H1 Q else Q (.bl false) H1
def tOrV (ta tb : TE) : TE := fun σ H Q => ta σ H fun x H1 => ∃ c, x = .bl c ∧ if c = true then Q (.bl true) H1 else tb σ H1 Q
def tNotV (ta : TE) : TE := fun σ H Q => ta σ H fun x H1 => ∃ c, x = .bl c ∧ Q (.bl (!c)) H1
theorem pe_one {op} {t : TE} (h : PE X a t) : PE X (.BoolOp op [a] pos) t := fun pins s σ H Q I hw => BoolOp_one (h pins s σ H Q I hw)
theorem pe_and (ha : PE X a ta) (hb : PE X (.BoolOp .And (b :: rest) pos) tb) : PE X (.BoolOp .And (a :: b :: rest) pos) (tAndV ta tb) := by
  intro pins s σ H Q I h
  refine BoolOp_and (thn (ha pins s σ H _ I h) fun v s1 ⟨x, H1, I1, r1, q1⟩ => ?_)
  obtain ⟨c, rfl, q1⟩ := q1
  cases r1
  refine wpAny_truthy_bool ?_
  cases c with
  | true => exact hb pins s1 σ H1 Q I1 q1
  | false => exact ⟨.bl false, H1, I1, rfl, q1⟩
theorem pe_or (ha : PE X a ta) (hb : PE X (.BoolOp .Or (b :: rest) pos) tb) : PE X (.BoolOp .Or (a :: b :: rest) pos) (tOrV ta tb) := by
  intro pins s σ H Q I h
  refine BoolOp_or (thn (ha pins s σ H _ I h) fun v s1 ⟨x, H1, I1, r1, q1⟩ => ?_)
  obtain ⟨c, rfl, q1⟩ := q1
  cases r1
  refine wpAny_truthy_bool ?_
  cases c with
  | false => exact hb pins s1 σ H1 Q I1 q1
  | true => exact ⟨.bl true, H1, I1, rfl, q1⟩
theorem pe_not (ha : PE X a ta) : PE X (.UnaryOp .Not a pos) (tNotV ta) := by
  intro pins s σ H Q I h
  refine UnaryOp_ (thn (ha pins s σ H _ I h) fun v s1 ⟨x, H1, I1, r1, q1⟩ => ?_)
  obtain ⟨c, rfl, q1⟩ := q1
  cases r1
  exact not_of (wpAny_truthy_bool ⟨.bl (!c), H1, I1, rfl, q1⟩)
/-- a if t else b -/
def tIf (t : TT) (ta tb : TE) : TE := fun σ H Q => t σ H fun c H1 => if c = true then ta σ H1 Q else tb σ H1 Q
theorem pe_ifExp {c : Expr} (hc : PT X c tA) (ha : PE X a ta) (hb : PE X b tb) : PE X (.IfExp c a b pos) (tIf tA ta tb) := by
  intro pins s σ H Q I h
  refine wpAny_IfExp (thn (hc pins s σ H _ I h) fun d s1 ⟨H1, I1, q1⟩ => ?_)
  cases d with
  | true => exact ha pins s1 σ H1 Q I1 q1
  | false => exact hb pins s1 σ H1 Q I1 q1
end
end L2

namespace L2
open PySem PySem.Spec PyProof.Rows

/-! ### a list, a tuple that is read: tracked, frozen, or an object of the module -/
def SqL (K : PySem.W.Frag) (H : Hp) (a : Addr) (xs : List V) : Prop :=
  Rd H a (.lst xs) ∨
    ∃ (o : Obj) (its : Array Value) (n : Nat), K.lookup a = some o ∧ o.cls = .type "list" ∧ o.dict = none ∧ o.data = .seq its n ∧ its.size ≤ sizeLine ∧ Vals xs its.toList
def SqT (K : PySem.W.Frag) (H : Hp) (a : Addr) (xs : List V) : Prop :=
  Rd H a (.tup xs) ∨
    ∃ (o : Obj) (its : Array Value) (n : Nat), K.lookup a = some o ∧ o.cls = .type "tuple" ∧ o.data = .seq its n ∧ its.size ≤ sizeLine ∧ Vals xs its.toList
def absV : Value → Option V
  | .none => some .non
  | .bool b => some (.bl b)
  | .int i _ => some (.int i)
  | .str x _ => some (.str x)
  | .bytes b _ => some (.byt b)
  | .float b _ => some (.flt b)
  | .ref a => some (.ref a)
  | .type n => some (.ty n)
  | _ => none
theorem RelV.abs {x : V} {u : Value} (r : RelV x u) : absV u = some x := by
  cases x with
  | non => cases r; rfl
  | bl _ => cases r; rfl
  | int _ => obtain ⟨t, rfl⟩ := r; rfl
  | str _ => obtain ⟨t, rfl⟩ := r; rfl
  | byt _ => obtain ⟨t, rfl⟩ := r; rfl
  | flt _ => obtain ⟨t, rfl⟩ := r; rfl
  | ref _ => cases r; rfl
  | ty _ => cases r; rfl
theorem RelV.inj {x y : V} {u : Value} (r : RelV x u) (q : RelV y u) : x = y := Option.some.inj (r.abs.symm.trans q.abs)
theorem Vals.inj : ∀ {xs ys : List V} {us : List Value}, Vals xs us → Vals ys us → xs = ys
  | _, _, _, .nil, .nil => rfl
  | _, _, _, .cons r t, .cons r' t' => by rw [r.inj r', Vals.inj t t']
section
variable {X : Cx} {pins : List (Addr × Obj)} {σ : St} {H : Hp} {s : Shared} {a : Addr} {xs ys : List V}
theorem SqL.of {K : PySem.W.Frag} (h : H a = some (.lst xs)) : SqL K H a xs := .inl (.inl h)
theorem SqT.of {K : PySem.W.Frag} (h : H a = some (.tup xs)) : SqT K H a xs := .inl (.inl h)
theorem Inv.list (I : Inv X pins σ H s) (h : SqL X.K H a xs) : ∃ its : List Value, Vals xs its ∧ PlainL s.heap a its.toArray ∧ xs.length ≤ sizeLine := by
  rcases h with h | ⟨o, its, n, hk, hc, hd, hs, hz, r⟩
  · obtain ⟨z, its, n, r, e⟩ := h.ok I.hok
    exact ⟨its, r, ⟨_, n, e, rfl, rfl, rfl⟩, z⟩
  · refine ⟨its.toList, r, ⟨o, n, I.kIn a o hk, hc, hd, by simpa using hs⟩, ?_⟩
    have e := r.length
    simp only [Array.length_toList] at e
    omega
theorem Inv.tuple (I : Inv X pins σ H s) (h : SqT X.K H a xs) : ∃ its : List Value, Vals xs its ∧ IsTup s.heap a its.toArray ∧ xs.length ≤ sizeLine := by
  rcases h with h | ⟨o, its, n, hk, hc, hs, hz, r⟩
  · obtain ⟨z, its, r, p⟩ := h.ok I.hok
    exact ⟨its, r, p, z⟩
  · refine ⟨its.toList, r, ⟨o, I.kIn a o hk, hc, n, by simpa using hs⟩, ?_⟩
    have e := r.length
    simp only [Array.length_toList] at e
    omega
theorem Inv.list_inj (I : Inv X pins σ H s) (h : SqL X.K H a xs) (h' : SqL X.K H a ys) : xs = ys := by
  obtain ⟨its, r, ⟨o, n, e, _, _, d⟩, _⟩ := I.list h
  obtain ⟨its', r', ⟨o', n', e', _, _, d'⟩, _⟩ := I.list h'
  rw [e] at e'; cases e'
  rw [d] at d'
  injection d' with d1 _
  have : its = its' := by simpa using congrArg Array.toList d1
  subst this
  exact r.inj r'
theorem Inv.tuple_inj (I : Inv X pins σ H s) (h : SqT X.K H a xs) (h' : SqT X.K H a ys) : xs = ys := by
  obtain ⟨its, r, ⟨o, e, _, n, d⟩, _⟩ := I.tuple h
  obtain ⟨its', r', ⟨o', e', _, n', d'⟩, _⟩ := I.tuple h'
  rw [e] at e'; cases e'
  rw [d] at d'
  injection d' with d1 _
  have : its = its' := by simpa using congrArg Array.toList d1
  subst this
  exact r.inj r'
end

/-! ### another wish about exceptions -/
abbrev Cx.wish (X : Cx) (E : Value → Shared → Prop) : Cx := { X with xe := E }
/-- no exception leaves -/
abbrev Cx.nox (X : Cx) : Cx := X.wish fun _ _ => False
theorem Cx.Ok.wish {X : Cx} (ok : X.Ok) (E : Value → Shared → Prop) : (X.wish E).Ok :=
  ⟨ok.mod, ok.kind, ok.glob, ok.blt, ok.above, ok.inj, ok.has, ok.cab, ok.hd, ok.frames, ok.stk, ok.exf, ok.bs, ok.bsz, ok.noex, ok.exfs, ok.funs, ok.frf⟩
theorem Cx.Ok.unwish {X : Cx} {E : Value → Shared → Prop} (ok : (X.wish E).Ok) : X.Ok :=
  ⟨ok.mod, ok.kind, ok.glob, ok.blt, ok.above, ok.inj, ok.has, ok.cab, ok.hd, ok.frames, ok.stk, ok.exf, ok.bs, ok.bsz, ok.noex, ok.exfs, ok.funs, ok.frf⟩
section
variable {X : Cx} {pins : List (Addr × Obj)} {σ : St} {H : Hp} {s : Shared} {E : Value → Shared → Prop}
theorem Inv.wish (I : Inv X pins σ H s) (E : Value → Shared → Prop) : Inv (X.wish E) pins σ H s := ⟨I.ok.wish E, I.os, I.bare, I.base, I.loc, I.cell, I.free, I.freeC, I.pin, I.hok, I.len⟩
theorem Inv.unwish (I : Inv (X.wish E) pins σ H s) : Inv X pins σ H s := ⟨I.ok.unwish, I.os, I.bare, I.base, I.loc, I.cell, I.free, I.freeC, I.pin, I.hok, I.len⟩
theorem SP.unwish {D : Ends} {f : Flow} {s' : Shared} (h : SP (X.wish E) pins D f s') : SP X pins D f s' := by
  cases f with
  | next => obtain ⟨σ', H', I, q⟩ := h; exact ⟨σ', H', I.unwish, q⟩
  | brk => obtain ⟨σ', H', I, q⟩ := h; exact ⟨σ', H', I.unwish, q⟩
  | cont => obtain ⟨σ', H', I, q⟩ := h; exact ⟨σ', H', I.unwish, q⟩
  | ret u => obtain ⟨v, σ', H', I, r, q⟩ := h; exact ⟨v, σ', H', I.unwish, r, q⟩
theorem PE.nox {e : Expr} {t : TE} (h : PE X.nox e t) : PE X e t := fun pins s σ H Q I hw =>
  wpAny_mono (h pins s σ H Q (I.wish _) hw) (fun _ _ ⟨v, H', I', r, q⟩ => ⟨v, H', I'.unwish, r, q⟩) fun _ _ z => False.elim z
theorem PT.nox {e : Expr} {t : TT} (h : PT X.nox e t) : PT X e t := fun pins s σ H Q I hw =>
  wpAny_mono (h pins s σ H Q (I.wish _) hw) (fun _ _ ⟨H', I', q⟩ => ⟨H', I'.unwish, q⟩) fun _ _ z => False.elim z
theorem PSs.nox {st : List Stmt} {t : TS} (h : PSs X.nox st t) : PSs X st t := fun pins s σ H D I hw =>
  wpAny_mono (h pins s σ H D (I.wish _) hw) (fun _ _ q => q.unwish) fun _ _ z => False.elim z
end

/-! ### blocks and small statements -/
section
variable {X : Cx} {st : Stmt} {rest : List Stmt} {t u : TS} {e : Expr} {te : TE} {pos : Pos}
def tNext : TS := fun D σ H => D.nx σ H
def tSeq (t u : TS) : TS := fun D σ H => t { D with nx := u D } σ H
theorem pss_nil : PSs X [] tNext := fun _ _ σ H _ I h => wpAny_execs_nil ⟨σ, H, I, h⟩
theorem pss_cons (h1 : PS X st t) (h2 : PSs X rest u) : PSs X (st :: rest) (tSeq t u) := by
  intro pins s σ H D I h
  refine wpAny_execs_cons (thn (h1 pins s σ H { D with nx := u D } I h) fun f s1 q => ?_)
  cases f with
  | next =>
    obtain ⟨σ', H', I', q⟩ := q
    exact h2 pins s1 σ' H' D I' q
  | ret v => exact q
  | brk => exact q
  | cont => exact q
theorem pss_one (h1 : PS X st t) : PSs X [st] t := by
  intro pins s σ H D I h
  refine wpAny_execs_cons (thn (h1 pins s σ H D I h) fun f s1 q => ?_)
  cases f with
  | next => exact wpAny_execs_nil q
  | ret v => exact q
  | brk => exact q
  | cont => exact q
def tBreak : TS := fun D σ H => D.bk σ H
def tCont : TS := fun D σ H => D.ct σ H
theorem ps_pass : PS X (.Pass pos) tNext := fun _ _ σ H _ I h => wpAny_Pass ⟨σ, H, I, h⟩
theorem ps_break : PS X (.Break pos) tBreak := fun _ _ σ H _ I h => wpAny_Break ⟨σ, H, I, h⟩
theorem ps_continue : PS X (.Continue pos) tCont := fun _ _ σ H _ I h => wpAny_Continue ⟨σ, H, I, h⟩
/-- in a def's body nothing is shown -/
theorem Inv.quiet {pins : List (Addr × Obj)} {σ : St} {H : Hp} {s : Shared} (I : Inv X pins σ H s) : interactive X.env = false := by simp [interactive, I.ok.kind]
/-- a docstring -/
theorem ps_doc {x j pos pos'} : PS X (.Expr (.Constant (.str x) j pos) pos') tNext := fun _ s σ H _ I h => wpAny_Expr (Calls.Constant_str (show SP X _ _ .next { s with toks := s.toks + 1 } from ⟨σ, H, I.tok _, h⟩)) I.quiet
/-- an expression whose value is dropped -/
def tDrop (te : TE) : TS := fun D σ H => te σ H fun _ H1 => D.nx σ H1
theorem ps_expr (he : PE X e te) (hs : swapsWith e none pos.line X.env = pure false := by rfl) : PS X (.Expr e pos) (tDrop te) := by
  intro pins s σ H D I h
  exact wpAny_Expr_any (thn (he pins s σ H _ I h) fun v s1 ⟨x, H1, I1, r1, q1⟩ => ⟨σ, H1, I1, q1⟩) I.quiet hs
def tRet (te : TE) : TS := fun D σ H => te σ H D.rt
theorem ps_ret (he : PE X e te) : PS X (.Return (some e) pos) (tRet te) := by
  intro pins s σ H D I h
  exact wpAny_Return_some (thn (he pins s σ H _ I h) fun v s1 ⟨x, H1, I1, r1, q1⟩ => ⟨x, σ, H1, I1, r1, q1⟩)
def tRetN : TS := fun D _ H => D.rt .non H
theorem ps_retN : PS X (.Return none pos) tRetN := fun _ _ σ H _ I h => wpAny_Return_none ⟨.non, σ, H, I, rfl, h⟩
def tIfS (c : TT) (t u : TS) : TS := fun D σ H => c σ H fun b H1 => if b = true then t D σ H1 else u D σ H1
theorem ps_if {c : Expr} {a b : List Stmt} {tc : TT} (hc : PT X c tc) (ha : PSs X a t) (hb : PSs X b u) : PS X (.If c a b pos) (tIfS tc t u) := by
  intro pins s σ H D I h
  refine wpAny_If (thn (hc pins s σ H _ I h) fun d s1 ⟨H1, I1, q1⟩ => ?_)
  cases d with
  | true => exact ha pins s1 σ H1 D I1 q1
  | false => exact hb pins s1 σ H1 D I1 q1
/-- code that the proof never comes to -/
def tNever : TS := fun _ _ _ => False
theorem ps_never : PS X st tNever := fun _ _ _ _ _ _ h => h.elim
theorem pss_never {sts : List Stmt} : PSs X sts tNever := fun _ _ _ _ _ _ h => h.elim
end

/-! ### targets -/
abbrev TG := V → St → Hp → (St → Hp → Prop) → Prop
abbrev TGs := List V → St → Hp → (St → Hp → Prop) → Prop
def PG (X : Cx) (target : Expr) (t : TG) : Prop :=
  ∀ (pins : List (Addr × Obj)) (s : Shared) (σ : St) (H : Hp) (v : V) (u : Value) (Q : St → Hp → Prop), Inv X pins σ H s → RelV v u → t v σ H Q →
    wpAny (model X.prog X.w) X.A (assign target X.env u) (fun _ s' => ∃ σ' H', Inv X pins σ' H' s' ∧ Q σ' H') X.xe s
/-- several targets, one after another -/
def PGs (X : Cx) (ts : List Expr) (t : TGs) : Prop :=
  ∀ (pins : List (Addr × Obj)) (s : Shared) (σ : St) (H : Hp) (vs : List V) (us : List Value) (Q : St → Hp → Prop), Inv X pins σ H s → Vals vs us → t vs σ H Q →
    wpAny (model X.prog X.w) X.A (assignInOrder ((assignEach ts X.env).map (·.2)) us) (fun _ s' => ∃ σ' H', Inv X pins σ' H' s' ∧ Q σ' H') X.xe s
/-- o[i] = v, by values -/
abbrev TSet := V → V → V → Hp → (Hp → Prop) → Prop
def PSet (X : Cx) (t : TSet) : Prop :=
  ∀ (pins : List (Addr × Obj)) (s : Shared) (σ : St) (H : Hp) (o i v : V) (ov iv u : Value) (Q : Hp → Prop), Inv X pins σ H s → RelV o ov → RelV i iv → RelV v u → t o i v H Q →
    wpAny (model X.prog X.w) X.A (setItem ov iv u) (fun _ s' => ∃ H', Inv X pins σ H' s' ∧ Q H') X.xe s
/-- a op= b, by values -/
abbrev TIp := V → V → Hp → VK → Prop
def PIp (X : Cx) (op : Operator) (t : TIp) : Prop :=
  ∀ (pins : List (Addr × Obj)) (s : Shared) (σ : St) (H : Hp) (x y : V) (v u : Value) (Q : VK), Inv X pins σ H s → RelV x v → RelV y u → t x y H Q →
    wpAny (model X.prog X.w) X.A (inplaceOp op v u) (EP X pins σ Q) X.xe s
section
variable {X : Cx} {pos : Pos}
def gName (i : Nat) : TG := fun v σ H Q => Q (σ.set i (some v)) H
theorem pg_name {i : Nat} {x : Str} (hN : X.N.Nodup) (hi : X.N[i]? = some x) (hx : Loc X.env.scope x) (hf : X.fn x = true ∨ X.env.scope.names.lookup x = some .local := by first | exact .inl rfl | exact .inr rfl | assumption) : PG X (.Name x pos) (gName i) := by
  intro pins s σ H v u Q I r h
  exact wpAny_assign_Name (store_ok I hN hi hx r (fun s' I' => ⟨_, H, I', h⟩) hf)
def gNil : TGs := fun vs σ H Q => vs = [] ∧ Q σ H
def gCons (t : TG) (u : TGs) : TGs := fun vs σ H Q => ∃ v r, vs = v :: r ∧ t v σ H fun σ' H' => u r σ' H' Q
theorem pgs_nil : PGs X [] gNil := by
  intro pins s σ H vs us Q I r h
  obtain ⟨e, h⟩ := h
  subst e
  cases r
  exact assignInOrder_nil ⟨σ, H, I, h⟩
theorem pgs_cons {e : Expr} {es : List Expr} {t : TG} {u : TGs} (h1 : PG X e t) (h2 : PGs X es u)
    (hs : (assignEach (e :: es) X.env).map (·.2) = assign e X.env :: (assignEach es X.env).map (·.2) := by rfl) : PGs X (e :: es) (gCons t u) := by
  intro pins s σ H vs us Q I r h
  obtain ⟨v, vr, e1, h⟩ := h
  subst e1
  cases r with
  | cons r rr =>
    rw [hs]
    refine assignInOrder_cons (thn (h1 pins s σ H _ _ _ I r h) fun _ s1 ⟨σ1, H1, I1, q1⟩ => ?_)
    exact h2 pins s1 σ1 H1 _ _ Q I1 rr q1
/-- (a, b, ..) = a tuple of that length -/
def gTup (K : PySem.W.Frag) (n : Nat) (t : TGs) : TG := fun v σ H Q => ∃ a xs, v = .ref a ∧ SqT K H a xs ∧ xs.length = n ∧ t xs σ H Q
theorem pg_tup {es : List Expr} {k : Nat} {t : TGs} {n : Nat} (hc : X.calm = true) (h : PGs X es t)
    (hn : (assignEach es X.env).length = n := by rfl) (hst : (assignEach es X.env).findIdx? (·.1) = none := by rfl) : PG X (.Tuple es k pos) (gTup X.K n t) := by
  intro pins s σ H v u Q I r hw
  obtain ⟨a, xs, e1, hq, hl, hw⟩ := hw
  subst e1
  cases r
  obtain ⟨its, rv, ht, hz⟩ := I.tuple hq
  refine assign_Tuple_tuple (I.ok.hd hc) ht (by simp [hn, ← hl, rv.length]) hst fun h' hx => ?_
  have I1 : Inv X pins σ H { s with heap := h' } := I.kept (t' := s.toks) fun b o e => hx b o (Nat.ne_of_lt (Heap.lt_size e)) e
  exact h pins _ σ H xs _ Q I1 (by simpa using rv) hw
/-- o[i] = .. -/
def gSub (to ti : TE) (t : TSet) : TG := fun v σ H Q => to σ H fun o H1 => ti σ H1 fun i H2 => t o i v H2 fun H3 => Q σ H3
theorem pg_sub {o i : Expr} {to ti : TE} {t : TSet} (ho : PE X o to) (hi : PE X i ti) (hs : PSet X t)
    (ha : ∀ v, assign (.Subscript o i pos) X.env v = (do
      let ov ← holding [v] (eval o X.env)
      let iv ← holding [v, ov] (eval i X.env)
      standAt pos
      holding [v, ov, iv] (setItem ov iv v)
      release [v, ov, iv] []) := by intro _; rfl) : PG X (.Subscript o i pos) (gSub to ti t) := by
  intro pins s σ H v u Q I r h
  rw [ha]
  refine wpAny_bind (wpAny_holding (thn (ho pins s σ H _ I h) fun ov s1 ⟨x, H1, I1, r1, q1⟩ => ?_))
  refine wpAny_bind (wpAny_holding (thn (hi pins s1 σ H1 _ I1 q1) fun iv s2 ⟨y, H2, I2, r2, q2⟩ => ?_))
  refine wpAny_bind (wpAny_standAt (wpAny_bind (wpAny_holding (thn (hs pins s2 σ H2 x y v ov iv u _ I2 r1 r2 r q2) fun _ s3 ⟨H3, I3, q3⟩ => ?_))))
  exact wpAny_release ⟨σ, H3, I3, q3⟩
/-- target = value -/
def tAsg (te : TE) (g : TG) : TS := fun D σ H => te σ H fun x H1 => g x σ H1 D.nx
theorem ps_asg {tg e : Expr} {te : TE} {g : TG} (he : PE X e te) (hg : PG X tg g) (hs : swapsWithSole [tg] e pos.line X.env = pure false := by rfl) (hw : swappedStores [tg] e X.env = pure none := by rfl)
    (h1 : (assignEach [tg] X.env).map (·.2) = [assign tg X.env] := by rfl) : PS X (.Assign [tg] e pos) (tAsg te g) := by
  intro pins s σ H D I h
  refine wpAny_Assign_stores (thn (he pins s σ H _ I h) fun v s1 ⟨x, H1, I1, r1, q1⟩ => ?_) hs hw
  rw [h1]
  exact thn (hg pins s1 σ H1 x v _ I1 r1 q1) fun _ s2 q => q
/-- name = value -/
theorem ps_set {i : Nat} {x : Str} {e : Expr} {te : TE} {pos' : Pos} (hN : X.N.Nodup) (hi : X.N[i]? = some x) (hx : Loc X.env.scope x) (he : PE X e te) (hs : swapsWith e (some (.Name x pos')) pos.line X.env = pure false := by rfl) (hf : X.fn x = true ∨ X.env.scope.names.lookup x = some .local := by first | exact .inl rfl | exact .inr rfl | assumption) :
    PS X (.Assign [.Name x pos'] e pos) (tAsg te (gName i)) := by
  intro pins s σ H D I h
  refine wpAny_Assign_Name (thn (he pins s σ H _ I h) fun v s1 ⟨y, H1, I1, r1, q1⟩ => ?_) hs
  exact store_ok I1 hN hi hx r1 (fun s2 I2 => ⟨_, H1, I2, q1⟩) hf
/-- a, b = x, y with plain local names: stored from the right; the pair itself is not tracked (the opening rows as in PyProof/Rows/TupAssign.lean:23) -/
def tPar (i j : Nat) (ta : TA) : TS := fun D σ H => ta σ H fun vs H1 => ∃ v w, vs = [v, w] ∧ D.nx ((σ.set i (some v)).set j (some w)) H1
theorem ps_par {i j : Nat} {x y : Str} {a b : Expr} {ta : TA} {px py pt : Pos} {kt k2 pt2} (hc : X.calm = true) (hN : X.N.Nodup) (hi : X.N[i]? = some x) (hj : X.N[j]? = some y) (hij : i ≠ j)
    (hx : X.env.scope.names.lookup x = some .local) (hy : X.env.scope.names.lookup y = some .local) (ha : PA X [a, b] ta)
    (hw : swappedStores [.Tuple [.Name x px, .Name y py] kt pt] (.Tuple [a, b] k2 pt2) X.env = pure (some [x, y]))
    (hs : swapsWithSole [.Tuple [.Name x px, .Name y py] kt pt] (.Tuple [a, b] k2 pt2) pos.line X.env = pure false := by rfl) :
    PS X (.Assign [.Tuple [.Name x px, .Name y py] kt pt] (.Tuple [a, b] k2 pt2) pos) (tPar i j ta) := by
  intro pins s σ H D I h
  rw [exec_Assign_arm]
  refine wpAny_bind (wpAny_standAt ?_)
  rw [hs]
  refine wpAny_bind (wpAny_pure ?_)
  rw [if_neg (by decide)]
  refine wpAny_bind (Tuple_ (thn (ha _ pins s σ H _ I h) fun us s1 ⟨vs, H1, I1, r1, q1⟩ => ?_))
  obtain ⟨v, w, e1, q1⟩ := q1
  subst e1
  obtain ⟨u1, u2, rfl, rv, rw'⟩ : ∃ u1 u2, us = [u1, u2] ∧ RelV v u1 ∧ RelV w u2 := by
    cases r1 with
    | cons p q =>
      cases q with
      | cons p' q' =>
        cases q'
        exact ⟨_, _, rfl, p, p'⟩
  refine wpAny_newObj_type ?_ (by show 2 ≤ sizeLine; decide)
  have I2 : Inv X pins σ H1 { s1 with heap := s1.heap.push { cls := .type "tuple", data := .seq [u1, u2].toArray } } := I1.kept (t' := s1.toks) fun b o e => Heap.get?_push_of_some _ e
  rw [hw]
  refine wpAny_bind (wpAny_pure ?_)
  show wpAny (model X.prog X.w) X.A (do rule "assign.swapped-stores"; let items ← unpackItems (.ref s1.heap.objs.size) 2 none; assignInOrder [fun v => bindName X.env y v, fun v => bindName X.env x v] items.reverse; pure Flow.next) _ _ _
  refine wpAny_bind (wpAny_rule (wpAny_bind (unpackItems_tuple (items := #[u1, u2]) (I.ok.hd hc) (IsTup.new s1.heap _) fun h' hx' => ?_)))
  have I3 := I2.kept (h' := h') (t' := s1.toks) fun b o e => hx' b o (Nat.ne_of_lt (Heap.lt_size e)) e
  show wpAny _ _ (assignInOrder [fun v => bindName X.env y v, fun v => bindName X.env x v] [u2, u1] >>= fun _ => pure Flow.next) _ _ _
  refine wpAny_bind (assignInOrder_cons (wpAny_bindName (store_ok I3 hN hj (.inl hy) rw' (fun s2 I4 => ?_) (.inr hy))))
  refine assignInOrder_cons (wpAny_bindName (store_ok I4 hN hi (.inl hx) rv (fun s3 I5 => assignInOrder_nil (wpAny_pure ?_)) (.inr hx)))
  rw [List.set_comm _ _ (Ne.symm hij)] at I5
  exact ⟨_, H1, I5, q1⟩
/-- name op= e -/
def tAug (i : Nat) (te : TE) (ti : TIp) : TS := fun D σ H => ∃ x, σ[i]? = some (some x) ∧ te σ H fun y H1 => ti x y H1 fun z H2 => D.nx (σ.set i (some z)) H2
theorem ps_aug {i : Nat} {x : Str} {e : Expr} {te : TE} {op : Operator} {ti : TIp} {pos' : Pos} (hN : X.N.Nodup) (hi : X.N[i]? = some x) (hx : Loc X.env.scope x) (he : PE X e te) (ho : PIp X op ti) (hf : X.fn x = true ∨ X.env.scope.names.lookup x = some .local := by first | exact .inl rfl | exact .inr rfl | assumption) :
    PS X (.AugAssign (.Name x pos') op e pos) (tAug i te ti) := by
  intro pins s σ H D I h
  obtain ⟨v, e1, h⟩ := h
  obtain ⟨m, hn, hl⟩ := I.loc
  have vis : Vis X.env.scope x := by rcases hx with k | k; exact .inl k; exact .inr (.inl k)
  obtain ⟨u, r, l⟩ := hl i x v hi e1 vis
  refine wpAny_AugAssign_Name ?_
  have go : wpAny (model X.prog X.w) X.A (eval e X.env) (fun w s₂ => wpAny (model X.prog X.w) X.A (inplaceOp op u w) (fun r s₃ => wpAny (model X.prog X.w) X.A (storeName X.env x r) (fun _ => SP X pins D .next) X.xe s₃) X.xe s₂) X.xe s := by
    refine thn (he pins s σ H _ I h) fun w s1 ⟨y, H1, I1, r1, q1⟩ => ?_
    refine thn (ho pins s1 σ H1 v y u w _ I1 r r1 q1) fun z s2 ⟨zv, H2, I2, r2, q2⟩ => ?_
    exact store_ok I2 hN hi hx r2 (fun s3 I3 => ⟨_, H2, I3, q2⟩) hf
  rcases l with ⟨hk, hm⟩ | ⟨hk, c, hc, hcell⟩
  · exact wpAny_loadName_local I.ok.kind hk hn hm go
  · rcases hk with hk | hk
    · exact wpAny_loadName_cell I.ok.kind hk hc hcell go
    · rcases hx with k | k
      · have : X.env.scope.names.lookup x = some .free := hk
        rw [k] at this; cases this
      · have : X.env.scope.names.lookup x = some .free := hk
        rw [k] at this; cases this
/-- o[i] op= e -/
def tAugS (to ti te : TE) (tget : V → V → Hp → VK → Prop) (tip : TIp) (tset : TSet) : TS := fun D σ H => to σ H fun o H1 => ti σ H1 fun i H2 => tget o i H2 fun x H3 => te σ H3 fun y H4 => tip x y H4 fun z H5 => tset o i z H5 fun H6 => D.nx σ H6
/-- o[i], by values -/
def PGet (X : Cx) (t : V → V → Hp → VK → Prop) : Prop :=
  ∀ (pins : List (Addr × Obj)) (s : Shared) (σ : St) (H : Hp) (o i : V) (ov iv : Value) (Q : VK), Inv X pins σ H s → RelV o ov → RelV i iv → t o i H Q →
    wpAny (model X.prog X.w) X.A (getItem ov iv) (EP X pins σ Q) X.xe s
theorem ps_augS {o i e : Expr} {to ti te : TE} {tget : V → V → Hp → VK → Prop} {tip : TIp} {tset : TSet} {op : Operator} {tpos : Pos} (ho : PE X o to) (hi : PE X i ti) (hg : PGet X tget) (he : PE X e te) (hp : PIp X op tip) (hs : PSet X tset)
    (ha : ∀ ov iv new, augStore i ov iv new = (do holding [new, ov, iv] (setItem ov iv new); release [new, ov, iv] []; pure .next) := by intros; rfl) : PS X (.AugAssign (.Subscript o i tpos) op e pos) (tAugS to ti te tget tip tset) := by
  intro pins s σ H D I h
  refine wpAny_AugAssign_SubscriptAny (thn (ho pins s σ H _ I h) fun ov s1 ⟨x1, H1, I1, r1, q1⟩ => ?_) ha
  refine thn (hi pins s1 σ H1 _ I1 q1) fun iv s2 ⟨x2, H2, I2, r2, q2⟩ => ?_
  refine thn (hg pins s2 σ H2 x1 x2 ov iv _ I2 r1 r2 q2) fun old s3 ⟨x3, H3, I3, r3, q3⟩ => ?_
  refine thn (he pins s3 σ H3 _ I3 q3) fun v s4 ⟨x4, H4, I4, r4, q4⟩ => ?_
  refine thn (hp pins s4 σ H4 x3 x4 old v _ I4 r3 r4 q4) fun new s5 ⟨x5, H5, I5, r5, q5⟩ => ?_
  exact thn (hs pins s5 σ H5 x1 x2 x5 ov iv new _ I5 r1 r2 r5 q5) fun _ s6 ⟨H6, I6, q6⟩ => ⟨σ, H6, I6, q6⟩
/-- ints -/
def ipI (f : Int → Int → Int) : TIp := fun x y H Q => ∃ i j, x = .int i ∧ y = .int j ∧ Q (.int (f i j)) H
theorem ip_add : PIp X .Add (ipI fun i j => i + j) := by
  intro pins s σ H x y v u Q I r1 r2 h
  obtain ⟨i, j, e1, e2, q⟩ := h
  subst e1; subst e2
  obtain ⟨t, rfl⟩ := r1
  obtain ⟨t', rfl⟩ := r2
  exact iadd_int ⟨.int _, H, I.tok _, ⟨_, rfl⟩, q⟩
theorem ip_sub : PIp X .Sub (ipI fun i j => i - j) := by
  intro pins s σ H x y v u Q I r1 r2 h
  obtain ⟨i, j, e1, e2, q⟩ := h
  subst e1; subst e2
  obtain ⟨t, rfl⟩ := r1
  obtain ⟨t', rfl⟩ := r2
  exact isub_int ⟨.int _, H, I.tok _, ⟨_, rfl⟩, q⟩
end

/-! ### while -/
section
variable {X : Cx} {pos : Pos}
/-- the invariant W with its measure -/
def tWhile (c : TT) (tb : TS) : TS := fun D σ H => ∃ W : Nat → St → Hp → Prop, (∃ m, W m σ H) ∧ ∀ m σ H, W m σ H →
  c σ H fun b H1 => if b = true then ∃ N : St → Hp → Prop, (∀ σ' H', N σ' H' → ∃ m', m' < m ∧ W m' σ' H') ∧ tb { D with nx := N, ct := N, bk := D.nx } σ H1 else D.nx σ H1
theorem ps_while {c : Expr} {body : List Stmt} {tc : TT} {tb : TS} (hp : PassesOwn (model X.prog X.w) X.A X.env X.xe) (hc : PT X c tc) (hb : PSs X body tb) : PS X (.While c body [] pos) (tWhile tc tb) := by
  intro pins s σ H D I h
  obtain ⟨W, ⟨m0, w0⟩, turn⟩ := h
  refine wpAny_While (codeAny_whileLoop (fun n s' => ∃ σ' H', Inv X pins σ' H' s' ∧ W n σ' H') ?_ m0 ⟨σ, H, I, w0⟩)
  rintro n s1 ⟨σ1, H1, I1, w1⟩
  refine wpAny_passesOwn hp (thn (hc pins s1 σ1 H1 _ I1 (turn n σ1 H1 w1)) fun b s2 ⟨H2, I2, q2⟩ => ?_)
  cases b with
  | true =>
    obtain ⟨N, hN, q2⟩ := q2
    rw [if_pos rfl]
    refine wpAny_passesOwn hp (thn (hb pins s2 σ1 H2 _ I2 q2) fun f s3 q3 => ?_)
    cases f with
    | next =>
      obtain ⟨σ3, H3, I3, n3⟩ := q3
      obtain ⟨m', hm, w3⟩ := hN σ3 H3 n3
      exact ⟨m', hm, σ3, H3, I3, w3⟩
    | cont =>
      obtain ⟨σ3, H3, I3, n3⟩ := q3
      obtain ⟨m', hm, w3⟩ := hN σ3 H3 n3
      exact ⟨m', hm, σ3, H3, I3, w3⟩
    | brk => exact q3
    | ret v => exact q3
  | false =>
    rw [if_neg Bool.false_ne_true]
    exact wpAny_execs_nil ⟨σ1, H2, I2, q2⟩
end

/-! ### what a loop or a comprehension walks -/
/-- at turn i: it yields x (the heap may grow), or it stops -/
structure It where
  go : Nat → Hp → Prop
  yld : Nat → Hp → V → Hp → Prop
  stop : Nat → Hp → Prop
/-- the iterator's own objects may turn: they are not the frame's, not pinned, younger than the entry (or a comprehension's own) -/
def FpOk (X : Cx) (pins : List (Addr × Obj)) (H : Hp) (b : Addr) : Prop :=
  H b = none ∧ b ≠ X.env.locals ∧ b ∉ X.fs ∧ (b ∈ X.ex ∨ X.s₀.heap.objs.size ≤ b) ∧ (∀ x c, X.env.cells.lookup x = some c → c ≠ b) ∧ ∀ p ∈ X.pn ++ pins, p.1 ≠ b
theorem Inv.fpOk {X : Cx} {pins : List (Addr × Obj)} {σ : St} {H H' : Hp} {s : Shared} {b : Addr} (I : Inv X pins σ H s) (hb : s.heap.objs.size ≤ b) (hn : H' b = none) : FpOk X pins H' b := by
  refine ⟨hn, Nat.ne_of_gt (Nat.lt_of_lt_of_le I.lt hb), I.nofs hb, .inr (Nat.le_trans I.sz hb), fun x c e z => ?_, fun p hp z => ?_⟩
  · obtain ⟨v, q⟩ := I.cell x c e
    exact absurd (Nat.lt_of_lt_of_le q.lt (by rw [z]; exact hb)) (Nat.lt_irrefl _)
  · exact absurd (Nat.lt_of_lt_of_le (Heap.lt_size (I.pin p hp).1) (by rw [z]; exact hb)) (Nat.lt_irrefl _)
structure Turn (P : Program) (w : World) (K : PySem.W.Frag) (tg : Expr) (J : It) (fp : List Addr) (it : Addr) (tn : Nat → Heap → Prop) : Prop where
  mem : it ∈ fp
  obj : ∀ i h, tn i h → ∀ b ∈ fp, ∃ o, h.get? b = some o ∧ ∀ v, o.data ≠ .cell v
  keep : ∀ i h h', tn i h → (∀ b ∈ fp, ∀ o, h.get? b = some o → h'.get? b = some o) → tn i h'
  item : ∀ (X : Cx), X.prog = P → X.w = w → X.K = K → X.calm = true → ∀ (i : Nat) (pins : List (Addr × Obj)) (s : Shared) (σ : St) (H : Hp) (E : Value → Shared → Prop), Inv X pins σ H s → (∀ b ∈ fp, FpOk X pins H b) → tn i s.heap → J.go i H →
    wpAny (model P w) X.A (pyNext (.ref it)) (fun r s1 => ∃ u, r = some u ∧
      wpAny (model P w) X.A (letOwnedTupleGo tg (.ref it) u) (fun _ s2 => ∃ x H', Inv X pins σ H' s2 ∧ RelV x u ∧ J.yld i H x H' ∧ tn (i + 1) s2.heap ∧ ∀ b ∈ fp, H' b = none) E s1) E s
  done : ∀ (X : Cx), X.prog = P → X.w = w → X.K = K → X.calm = true → ∀ (i : Nat) (pins : List (Addr × Obj)) (s : Shared) (σ : St) (H : Hp) (E : Value → Shared → Prop), Inv X pins σ H s → (∀ b ∈ fp, FpOk X pins H b) → tn i s.heap → J.stop i H →
    wpAny (model P w) X.A (pyNext (.ref it)) (fun r s1 => r = none ∧ Inv X pins σ H s1) E s
  self : ∀ (A : Around) (i : Nat) (s : Shared) (Q : Value → Shared → Prop) (E : Value → Shared → Prop), tn i s.heap → Q (.ref it) s → wpAny (model P w) A (pyIter (.ref it)) Q E s
abbrev TI := St → Hp → (It → Hp → Prop) → Prop
/-- an iterator has come -/
def PIE (X : Cx) (pins : List (Addr × Obj)) (σ : St) (tg : Expr) (R : It → Hp → Prop) (itv : Value) (s2 : Shared) : Prop :=
  ∃ (it : Addr) (fp : List Addr) (tn : Nat → Heap → Prop) (J : It) (H' : Hp), itv = .ref it ∧ Inv X pins σ H' s2 ∧ Turn X.prog X.w X.K tg J fp it tn ∧ tn 0 s2.heap ∧ (∀ b ∈ fp, FpOk X pins H' b) ∧ R J H'
def PI (X : Cx) (tg iter : Expr) (wi : TI) : Prop :=
  ∀ (pins : List (Addr × Obj)) (s : Shared) (σ : St) (H : Hp) (R : It → Hp → Prop), Inv X pins σ H s → wi σ H R →
    wpAny (model X.prog X.w) X.A (eval iter X.env) (fun v s1 => wpAny (model X.prog X.w) X.A (pyIter v) (PIE X pins σ tg R) X.xe s1) X.xe s

/-- the step ahead of the store is nothing for an iterator that keeps no tuple -/
theorem go_of {M : Model} {A : Around} {E : Value → Shared → Prop} {s : Shared} {tg : Expr} {it : Addr} {u : Value} {o : Obj} {n : String} {vs : Array Value} {Q : Unit → Shared → Prop} (ho : s.heap.get? it = some o) (hc : o.cls = .type n) (hd : o.data = .fields vs)
    (hn : ["enumerate", "zip", "dict_itemiterator", "dict_reverseitemiterator", "odict_iterator", "itertools.zip_longest", "itertools.pairwise"].contains n = false) (hQ : Q () s) : wpAny M A (letOwnedTupleGo tg (.ref it) u) Q E s := by
  unfold letOwnedTupleGo
  cases tg <;> first
    | exact wpAny_pure hQ
    | (cases u <;> first
        | exact wpAny_pure hQ
        | (refine wpAny_bind (wpAny_load ho ?_)
           rw [hc, hd]
           show wpAny M A (if (["enumerate", "zip", "dict_itemiterator", "dict_reverseitemiterator", "odict_iterator", "itertools.zip_longest", "itertools.pairwise"].contains n && vs[0]? == some (rawInt _)) = true then _ else _) Q E s
           rw [if_neg (by intro h; rw [hn, Bool.false_and] at h; cases h)]
           exact wpAny_pure hQ))

/-- the list at a, as it stands at each turn (a loop may append to it) -/
def Itl (K : PySem.W.Frag) (a : Addr) : It :=
  ⟨fun i H => ∃ xs x, SqL K H a xs ∧ xs[i]? = some x, fun i H x H' => H' = H ∧ ∀ xs, SqL K H a xs → xs[i]? = some x, fun i H => ∃ xs, SqL K H a xs ∧ xs.length ≤ i⟩
def Itt (K : PySem.W.Frag) (a : Addr) : It :=
  ⟨fun i H => ∃ xs x, SqT K H a xs ∧ xs[i]? = some x, fun i H x H' => H' = H ∧ ∀ xs, SqT K H a xs → xs[i]? = some x, fun i H => ∃ xs, SqT K H a xs ∧ xs.length ≤ i⟩
/-- lo, lo + 1, .. (n of them) -/
def Itr (lo : Int) (n : Nat) : It := ⟨fun i _ => i < n, fun i H x H' => H' = H ∧ x = .int (lo + i), fun i _ => n ≤ i⟩
theorem turn_list {P : Program} {w : World} {K : PySem.W.Frag} {tg : Expr} (a it : Addr) : Turn P w K tg (Itl K a) [it] it (fun i h => h.IsListIter it a i) where
  mem := by simp
  obj := fun i h st b hb => by
    have e : b = it := by simpa using hb
    subst e
    obtain ⟨o, e, c, d⟩ := st
    exact ⟨o, e, fun v z => by rw [d] at z; cases z⟩
  keep := fun i h h' st k => st.at fun o e => k it (by simp) o e
  item := by
    intro X hP hw hK hc i pins s σ H E I hf st hg
    subst hP hw hK
    obtain ⟨xs, x, hq, hx⟩ := hg
    obtain ⟨its, rv, p, hz⟩ := I.list hq
    obtain ⟨u, hu, ru⟩ := rv.get hx
    obtain ⟨f0, f1, f2, f3, f4, f5⟩ := hf it (by simp)
    refine wpAny_pyNext_list_item st p.isList (x := u) (by simpa using hu) fun h' st' sb => ?_
    have I1 : Inv X pins σ H { s with heap := h' } := I.turned (t' := s.toks) (fun b o hb e => (sb.2 b hb).trans e) f0 f1 f3 f4 f5
    obtain ⟨o, e, c, d⟩ := id st'
    exact ⟨u, rfl, go_of (s := { s with heap := h' }) e c d (by decide) ⟨x, H, I1, ru, ⟨rfl, fun ys hy => by rw [I.list_inj hy hq]; exact hx⟩, st', fun b hb => (hf b hb).1⟩⟩
  done := by
    intro X hP hw hK hc i pins s σ H E I hf st hg
    subst hP hw hK
    obtain ⟨xs, hq, hx⟩ := hg
    obtain ⟨its, rv, p, hz⟩ := I.list hq
    obtain ⟨f0, f1, f2, f3, f4, f5⟩ := hf it (by simp)
    have hl := rv.length
    exact wpAny_pyNext_list_end (I.ok.hd hc) st p.isList (by simp; omega) fun h' eb => ⟨rfl, I.turned (t' := s.toks) (fun b o hb e => eb b o hb e) f0 f1 f3 f4 f5⟩
  self := fun _ _ _ _ _ st h => wpAny_pyIter_listiter st h
theorem turn_tuple {P : Program} {w : World} {K : PySem.W.Frag} {tg : Expr} (a it : Addr) : Turn P w K tg (Itt K a) [it] it (fun i h => h.IsTupleIter it a i) where
  mem := by simp
  obj := fun i h st b hb => by
    have e : b = it := by simpa using hb
    subst e
    obtain ⟨o, e, c, d⟩ := st
    exact ⟨o, e, fun v z => by rw [d] at z; cases z⟩
  keep := fun i h h' st k => st.at fun o e => k it (by simp) o e
  item := by
    intro X hP hw hK hc i pins s σ H E I hf st hg
    subst hP hw hK
    obtain ⟨xs, x, hq, hx⟩ := hg
    obtain ⟨its, rv, p, hz⟩ := I.tuple hq
    obtain ⟨u, hu, ru⟩ := rv.get hx
    obtain ⟨f0, f1, f2, f3, f4, f5⟩ := hf it (by simp)
    refine wpAny_pyNext_tuple_item st (show s.heap.IsTuple a its.toArray from p) (x := u) (by simpa using hu) fun h' st' sb => ?_
    have I1 : Inv X pins σ H { s with heap := h' } := I.turned (t' := s.toks) (fun b o hb e => (sb.2 b hb).trans e) f0 f1 f3 f4 f5
    obtain ⟨o, e, c, d⟩ := id st'
    exact ⟨u, rfl, go_of (s := { s with heap := h' }) e c d (by decide) ⟨x, H, I1, ru, ⟨rfl, fun ys hy => by rw [I.tuple_inj hy hq]; exact hx⟩, st', fun b hb => (hf b hb).1⟩⟩
  done := by
    intro X hP hw hK hc i pins s σ H E I hf st hg
    subst hP hw hK
    obtain ⟨xs, hq, hx⟩ := hg
    obtain ⟨its, rv, p, hz⟩ := I.tuple hq
    obtain ⟨f0, f1, f2, f3, f4, f5⟩ := hf it (by simp)
    have hl := rv.length
    exact wpAny_pyNext_tuple_end (I.ok.hd hc) st (show s.heap.IsTuple a its.toArray from p) (by simp; omega) fun h' eb => ⟨rfl, I.turned (t' := s.toks) (fun b o hb e => eb b o hb e) f0 f1 f3 f4 f5⟩
  self := fun _ _ _ _ _ st h => wpAny_pyIter_tupleiter st h
theorem turn_range {P : Program} {w : World} {K : PySem.W.Frag} {tg : Expr} (it : Addr) (lo : Int) (n : Nat) : Turn P w K tg (Itr lo n) [it] it (fun i h => IsRangeIter h it (lo + (i : Nat) * 1) ((n : Int) - (i : Nat)) 1) where
  mem := by simp
  obj := fun i h st b hb => by
    have e : b = it := by simpa using hb
    subst e
    exact ⟨_, st, fun v z => by
      have z' : Data.fields _ = Data.cell v := z
      cases z'⟩
  keep := fun i h h' st k => k it (by simp) _ st
  item := by
    intro X hP hw hK hc i pins s σ H E I hf st hg
    subst hP hw hK
    obtain ⟨f0, f1, f2, f3, f4, f5⟩ := hf it (by simp)
    have W := Walks.range (prog := X.prog) (w := X.w) (I.ok.hd hc) it lo 1 n
    refine W.item i s _ _ hg st fun v h' tk hv st' kk => ?_
    obtain ⟨t, rfl⟩ := hv
    have I1 : Inv X pins σ H { s with heap := h', toks := tk } := I.turned (fun b o hb e => kk b o (by simpa using hb) e) f0 f1 f3 f4 f5
    refine ⟨_, rfl, go_of (s := { s with heap := h', toks := tk }) (n := "range_iterator") st' rfl rfl (by decide) ⟨.int (lo + i), H, I1, ⟨t, ?_⟩, ⟨rfl, rfl⟩, st', fun b hb => (hf b hb).1⟩⟩
    rw [Int.mul_one]
  done := by
    intro X hP hw hK hc i pins s σ H E I hf st hg
    subst hP hw hK
    obtain ⟨f0, f1, f2, f3, f4, f5⟩ := hf it (by simp)
    exact wpAny_pyNext_range_end (I.ok.hd hc) st (by have : n ≤ i := hg; omega) fun h' eb => ⟨rfl, I.turned (t' := s.toks) (fun b o hb e => eb b o hb e) f0 f1 f3 f4 f5⟩
  self := fun _ _ _ _ _ st h => wpAny_pyIter_rangeiter st h
end L2

namespace L2
open PySem PySem.Spec PyProof.Rows
section
variable {X : Cx} {tg : Expr}
def iList (K : PySem.W.Frag) (tl : TE) : TI := fun σ H R => tl σ H fun x H1 => ∃ a, x = .ref a ∧ (∃ xs, SqL K H1 a xs) ∧ R (Itl K a) H1
def iTup (K : PySem.W.Frag) (tl : TE) : TI := fun σ H R => tl σ H fun x H1 => ∃ a, x = .ref a ∧ (∃ xs, SqT K H1 a xs) ∧ R (Itt K a) H1
theorem pi_list {l : Expr} {tl : TE} (hl : PE X l tl) : PI X tg l (iList X.K tl) := by
  intro pins s σ H R I h
  refine thn (hl pins s σ H _ I h) fun v s1 ⟨x, H1, I1, r1, q1⟩ => ?_
  obtain ⟨a, e, ⟨xs, hq⟩, q⟩ := q1
  subst e
  cases r1
  obtain ⟨its, rv, p, hz⟩ := I1.list hq
  refine wpAny_pyIter_list p.isList ?_
  refine ⟨s1.heap.objs.size, [s1.heap.objs.size], _, _, H1, rfl, I1.kept (t' := s1.toks) fun b o e => Heap.get?_push_of_some _ e, turn_list a _, ⟨_, Heap.get?_push_size _ rfl, rfl, rfl⟩, fun b hb => ?_, q⟩
  have e : b = s1.heap.objs.size := by simpa using hb
  subst e
  exact I1.fpOk (Nat.le_refl _) (I1.hok.fresh (Nat.le_refl _))
theorem pi_tup {l : Expr} {tl : TE} (hl : PE X l tl) : PI X tg l (iTup X.K tl) := by
  intro pins s σ H R I h
  refine thn (hl pins s σ H _ I h) fun v s1 ⟨x, H1, I1, r1, q1⟩ => ?_
  obtain ⟨a, e, ⟨xs, hq⟩, q⟩ := q1
  subst e
  cases r1
  obtain ⟨its, rv, p, hz⟩ := I1.tuple hq
  refine wpAny_pyIter_tuple (show s1.heap.IsTuple a its.toArray from p) ?_
  refine ⟨s1.heap.objs.size, [s1.heap.objs.size], _, _, H1, rfl, I1.kept (t' := s1.toks) fun b o e => Heap.get?_push_of_some _ e, turn_tuple a _, ⟨_, Heap.get?_push_size _ rfl, rfl, rfl⟩, fun b hb => ?_, q⟩
  have e : b = s1.heap.objs.size := by simpa using hb
  subst e
  exact I1.fpOk (Nat.le_refl _) (I1.hok.fresh (Nat.le_refl _))
/-- a range object just made, walked -/
theorem range_it {pins : List (Addr × Obj)} {σ : St} {H : Hp} {s : Shared} {R : It → Hp → Prop} {E : Value → Shared → Prop} {lo hi : Int} {t u v : Tok} {tk : Nat} (I : Inv X pins σ H s) (h1 : -(2 ^ 62) ≤ lo) (h2 : lo < 2 ^ 62) (h3 : -(2 ^ 62) ≤ hi) (h4 : hi < 2 ^ 62)
    (q : R (Itr lo (hi - lo).toNat) H) : wpAny (model X.prog X.w) X.A (pyIter (.ref s.heap.objs.size)) (PIE X pins σ tg R) E { s with heap := s.heap.push { cls := .type "range", data := .fields #[.int lo t, .int hi u, .int 1 v] }, toks := tk } := by
  refine wpAny_pyIter_range (IsRange.new ..) (small_one h1 h2 h3 h4) ?_
  have I1 : Inv X pins σ H { s with heap := s.heap.push { cls := .type "range", data := .fields #[.int lo t, .int hi u, .int 1 v] }, toks := tk } := I.kept fun b o e => Heap.get?_push_of_some _ e
  refine ⟨(s.heap.push { cls := .type "range", data := .fields #[.int lo t, .int hi u, .int 1 v] }).objs.size, [(s.heap.push { cls := .type "range", data := .fields #[.int lo t, .int hi u, .int 1 v] }).objs.size], _, _, H, rfl,
    I1.kept (t' := tk) fun b o e => Heap.get?_push_of_some _ e, turn_range _ lo (hi - lo).toNat, ?_, fun b hb => ?_, q⟩
  · have e1 : lo + ((0 : Nat) : Int) * 1 = lo := by simp
    have e2 : (((hi - lo).toNat : Nat) : Int) - ((0 : Nat) : Int) = Builtin.Range.rangeSize lo hi 1 := by rw [rangeSize_one]; split <;> omega
    show IsRangeIter _ _ (lo + ((0 : Nat) : Int) * 1) ((((hi - lo).toNat : Nat) : Int) - ((0 : Nat) : Int)) 1
    rw [e1, e2]
    exact Heap.get?_push_size _ rfl
  · have e : b = (s.heap.push { cls := .type "range", data := .fields #[.int lo t, .int hi u, .int 1 v] }).objs.size := by simpa using hb
    subst e
    exact I1.fpOk (Nat.le_refl _) (I1.hok.fresh (Nat.le_refl _))
def iRng1 (ta : TA) : TI := fun σ H R => ta σ H fun vs H1 => ∃ j : Int, vs = [.int j] ∧ -(2 ^ 62) ≤ j ∧ j < 2 ^ 62 ∧ R (Itr 0 j.toNat) H1
def iRng2 (ta : TA) : TI := fun σ H R => ta σ H fun vs H1 => ∃ i j : Int, vs = [.int i, .int j] ∧ (-(2 ^ 62) ≤ i ∧ i < 2 ^ 62 ∧ -(2 ^ 62) ≤ j ∧ j < 2 ^ 62) ∧ R (Itr i (j - i).toNat) H1
theorem pi_range1 {a : Expr} {ta : TA} {p pos : Pos} (hg : Gl X "range") (hm : X.mg "range" = none) (ha : PA X [a] ta) (hs : starEach [a] X.env = [(false, eval a X.env)] := by rfl) : PI X tg (.Call (.Name "range" p) [a] [] pos) (iRng1 ta) := by
  intro pins s σ H R I h
  refine Call_ (ld_blt I hg hm boot_range (PyProof.Rows.callWith_type1 (thn (ha pos pins s σ H _ I h) fun us s1 ⟨vs, H1, I1, r1, q1⟩ => ?_) hs rfl))
  obtain ⟨j, e, q1, q2, q⟩ := q1
  subst e
  cases r1 with
  | cons r rr =>
    cases rr
    obtain ⟨t, rfl⟩ := r
    exact call_range_1 (range_it I1 (by omega) (by omega) q1 q2 (by simpa using q))
theorem pi_range2 {a b : Expr} {ta : TA} {p pos : Pos} (hg : Gl X "range") (hm : X.mg "range" = none) (ha : PA X [a, b] ta) (hs : starEach [a, b] X.env = [(false, eval a X.env), (false, eval b X.env)] := by rfl) (hs2 : starEach [b] X.env = [(false, eval b X.env)] := by rfl) :
    PI X tg (.Call (.Name "range" p) [a, b] [] pos) (iRng2 ta) := by
  intro pins s σ H R I h
  refine Call_ (ld_blt I hg hm boot_range (PyProof.Rows.callWith_type1 (thn (ha pos pins s σ H _ I h) fun us s1 ⟨vs, H1, I1, r1, q1⟩ => ?_) (by rw [hs, hs2]) (by rw [hs2]; rfl)))
  obtain ⟨i, j, e, ⟨q1, q2, q3, q4⟩, q⟩ := q1
  subst e
  cases r1 with
  | cons r rr =>
    cases rr with
    | cons r' rr =>
      cases rr
      obtain ⟨t, rfl⟩ := r
      obtain ⟨t', rfl⟩ := r'
      exact call_range_2 (range_it I1 q1 q2 q3 q4 q)

/-! ### for -/
/-- W: the invariant by the turn and a measure; N: what the body is to reach -/
def tFor (wi : TI) (g : TG) (tb : TS) : TS := fun D σ H => wi σ H fun J H1 => ∃ W : Nat → Nat → St → Hp → Prop, (∃ m, W 0 m σ H1) ∧ ∀ i m σ H, W i m σ H →
  (J.stop i H ∧ D.nx σ H) ∨ (J.go i H ∧ ∃ N : St → Hp → Prop, (∀ σ' H', N σ' H' → ∃ m', m' < m ∧ W (i + 1) m' σ' H') ∧ ∀ x H', J.yld i H x H' → g x σ H' fun σ2 H2 => tb { D with nx := N, ct := N, bk := D.nx } σ2 H2)
/-- the records at fp as they stand -/
def pinsAt (fp : List Addr) (h : Heap) : List (Addr × Obj) := fp.filterMap fun b => (h.get? b).map fun o => (b, o)
theorem mem_pinsAt {fp : List Addr} {h : Heap} {b : Addr} {o : Obj} (hb : b ∈ fp) (e : h.get? b = some o) : (b, o) ∈ pinsAt fp h := List.mem_filterMap.mpr ⟨b, hb, by rw [e]; rfl⟩
theorem of_pinsAt {fp : List Addr} {h : Heap} {p : Addr × Obj} (hp : p ∈ pinsAt fp h) : p.1 ∈ fp ∧ h.get? p.1 = some p.2 := by
  obtain ⟨b, hb, e⟩ := List.mem_filterMap.mp hp
  cases q : h.get? b with
  | none => rw [q] at e; cases e
  | some o =>
    rw [q] at e
    have e' : (b, o) = p := Option.some.inj e
    subst e'
    exact ⟨hb, q⟩
theorem Inv.pinned {pins : List (Addr × Obj)} {σ : St} {H : Hp} {s : Shared} {fp : List Addr} (I : Inv X pins σ H s) (hf : ∀ b ∈ fp, FpOk X pins H b) (ho : ∀ b ∈ fp, ∃ o, s.heap.get? b = some o ∧ ∀ v, o.data ≠ .cell v) : Inv X (pins ++ pinsAt fp s.heap) σ H s :=
  I.pins_of fun p hp => (List.mem_append.mp hp).elim (fun z => I.pin p (List.mem_append_right _ z)) fun z => by
    obtain ⟨hb, e⟩ := of_pinsAt z
    obtain ⟨f0, f1, f2, _⟩ := hf p.1 hb
    obtain ⟨o, e', d⟩ := ho p.1 hb
    rw [e] at e'; cases e'
    exact ⟨e, f0, f1, f2, d⟩
theorem Inv.unpinned {pins pl : List (Addr × Obj)} {σ : St} {H : Hp} {s : Shared} (I : Inv X (pins ++ pl) σ H s) : Inv X pins σ H s := I.pins_of fun p hp => I.pin p (List.mem_append_right _ (List.mem_append_left _ hp))
theorem ps_for {iter : Expr} {body : List Stmt} {wi : TI} {g : TG} {tb : TS} {pos : Pos} (hp : PassesOwn (model X.prog X.w) X.A X.env X.xe) (hc : X.calm = true) (hi : PI X tg iter wi) (hg : PG X tg g) (hb : PSs X body tb)
    (hs : ∀ x, foldedSetIterable iter X.env x = pure x := by intro _; rfl) : PS X (.For tg iter body [] pos) (tFor wi g tb) := by
  intro pins s σ H D I h
  refine wpAny_For (thn (hi pins s σ H _ I h) fun v s1 h1 => thn h1 fun itv s2 h2 => ?_) hs
  obtain ⟨it, fp, tn, J, H2, e, I2, T, st2, f2, W, ⟨m0, w0⟩, turn⟩ := h2
  subst e
  -- what stays true of the iterator's objects through the loop
  have stat : ∀ {H' : Hp}, (∀ b ∈ fp, H' b = none) → ∀ b ∈ fp, FpOk X pins H' b := fun hn b hb => ⟨hn b hb, (f2 b hb).2⟩
  refine codeAny_forLoop_any (fun n s' => ∃ i σ' H', Inv X pins σ' H' s' ∧ tn i s'.heap ∧ (∀ b ∈ fp, H' b = none) ∧ W i n σ' H') ?_ m0 ⟨0, σ, H2, I2, st2, fun b hb => (f2 b hb).1, w0⟩
  rintro n s3 ⟨i, σ3, H3, I3, st3, fr3, w3⟩
  rcases turn i n σ3 H3 w3 with ⟨stop, qn⟩ | ⟨go, N, hN, step⟩
  · refine wpAny_passesOwn hp (thn (T.done X rfl rfl rfl hc i pins s3 σ3 H3 X.xe I3 (stat fr3) st3 stop) fun r s4 ⟨hr, I4⟩ => ?_)
    subst hr
    exact wpAny_execs_nil ⟨σ3, H3, I4, qn⟩
  · refine wpAny_passesOwn hp (thn (T.item X rfl rfl rfl hc i pins s3 σ3 H3 X.xe I3 (stat fr3) st3 go) fun r s4 ⟨u, hr, h4⟩ => ?_)
    subst hr
    refine wpAny_passesOwn hp (thn h4 fun _ s5 ⟨x, H5, I5, r5, y5, st5, fr5⟩ => ?_)
    have I5' := I5.pinned (stat fr5) (T.obj _ _ st5)
    refine wpAny_passesOwn hp (thn (hg _ s5 σ3 H5 x u _ I5' r5 (step x H5 y5)) fun _ s6 ⟨σ6, H6, I6, q6⟩ => ?_)
    refine wpAny_passesOwn hp (thn (hb _ s6 σ6 H6 _ I6 q6) fun f s7 q7 => ?_)
    have again : ∀ {σ7 : St} {H7 : Hp}, Inv X (pins ++ pinsAt fp s5.heap) σ7 H7 s7 → N σ7 H7 → ∃ m, m < n ∧ ∃ i σ' H', Inv X pins σ' H' s7 ∧ tn i s7.heap ∧ (∀ b ∈ fp, H' b = none) ∧ W i m σ' H' := fun {σ7 H7} I7 n7 => by
      obtain ⟨m', hm, w7⟩ := hN σ7 H7 n7
      refine ⟨m', hm, i + 1, σ7, H7, I7.unpinned, T.keep _ _ _ st5 fun b hb o e => (I7.pin (b, o) (List.mem_append_right _ (List.mem_append_right _ (mem_pinsAt hb e)))).1, fun b hb => ?_, w7⟩
      obtain ⟨o, e, d⟩ := T.obj _ _ st5 b hb
      exact (I7.pin (b, o) (List.mem_append_right _ (List.mem_append_right _ (mem_pinsAt hb e)))).2.1
    cases f with
    | next => obtain ⟨σ7, H7, I7, n7⟩ := q7; exact again I7 n7
    | cont => obtain ⟨σ7, H7, I7, n7⟩ := q7; exact again I7 n7
    | brk => obtain ⟨σ7, H7, I7, q7⟩ := q7; exact ⟨σ7, H7, I7.unpinned, q7⟩
    | ret v => obtain ⟨x7, σ7, H7, I7, r7, q7⟩ := q7; exact ⟨x7, σ7, H7, I7.unpinned, r7, q7⟩
end

/-! ### the forms one uses -/
/-- over a list that the body leaves as it is -/
theorem for_list {K : PySem.W.Frag} {a : Addr} {xs : List V} {g : TG} {tb : TS} {D : Ends} {σ : St} {H : Hp} (Pv : Nat → St → Hp → Prop) (h0 : Pv 0 σ H) (hl : ∀ i σ H, i ≤ xs.length → Pv i σ H → SqL K H a xs)
    (hs : ∀ i x σ H, xs[i]? = some x → Pv i σ H → g x σ H fun σ2 H2 => tb { D with nx := Pv (i + 1), ct := Pv (i + 1), bk := D.nx } σ2 H2) (hd : ∀ σ H, Pv xs.length σ H → D.nx σ H) :
    ∃ W : Nat → Nat → St → Hp → Prop, (∃ m, W 0 m σ H) ∧ ∀ i m σ H, W i m σ H →
      ((Itl K a).stop i H ∧ D.nx σ H) ∨ ((Itl K a).go i H ∧ ∃ N : St → Hp → Prop, (∀ σ' H', N σ' H' → ∃ m', m' < m ∧ W (i + 1) m' σ' H') ∧ ∀ x H', (Itl K a).yld i H x H' → g x σ H' fun σ2 H2 => tb { D with nx := N, ct := N, bk := D.nx } σ2 H2) := by
  refine ⟨fun i m σ H => m = xs.length - i ∧ i ≤ xs.length ∧ Pv i σ H, ⟨xs.length, by simp, Nat.zero_le _, h0⟩, ?_⟩
  rintro i m σ H ⟨rfl, hi, p⟩
  have q := hl i σ H hi p
  by_cases hlt : i < xs.length
  · refine .inr ⟨⟨xs, xs[i], q, by simp [hlt]⟩, Pv (i + 1), fun σ' H' p' => ⟨xs.length - (i + 1), by omega, rfl, hlt, p'⟩, fun x H' y => ?_⟩
    obtain ⟨e, y⟩ := y
    subst e
    exact hs i x σ _ (y xs q) p
  · have e : i = xs.length := by omega
    subst e
    exact .inl ⟨⟨xs, q, Nat.le_refl _⟩, hd σ H p⟩
theorem for_tup {K : PySem.W.Frag} {a : Addr} {xs : List V} {g : TG} {tb : TS} {D : Ends} {σ : St} {H : Hp} (Pv : Nat → St → Hp → Prop) (h0 : Pv 0 σ H) (hl : ∀ i σ H, i ≤ xs.length → Pv i σ H → SqT K H a xs)
    (hs : ∀ i x σ H, xs[i]? = some x → Pv i σ H → g x σ H fun σ2 H2 => tb { D with nx := Pv (i + 1), ct := Pv (i + 1), bk := D.nx } σ2 H2) (hd : ∀ σ H, Pv xs.length σ H → D.nx σ H) :
    ∃ W : Nat → Nat → St → Hp → Prop, (∃ m, W 0 m σ H) ∧ ∀ i m σ H, W i m σ H →
      ((Itt K a).stop i H ∧ D.nx σ H) ∨ ((Itt K a).go i H ∧ ∃ N : St → Hp → Prop, (∀ σ' H', N σ' H' → ∃ m', m' < m ∧ W (i + 1) m' σ' H') ∧ ∀ x H', (Itt K a).yld i H x H' → g x σ H' fun σ2 H2 => tb { D with nx := N, ct := N, bk := D.nx } σ2 H2) := by
  refine ⟨fun i m σ H => m = xs.length - i ∧ i ≤ xs.length ∧ Pv i σ H, ⟨xs.length, by simp, Nat.zero_le _, h0⟩, ?_⟩
  rintro i m σ H ⟨rfl, hi, p⟩
  have q := hl i σ H hi p
  by_cases hlt : i < xs.length
  · refine .inr ⟨⟨xs, xs[i], q, by simp [hlt]⟩, Pv (i + 1), fun σ' H' p' => ⟨xs.length - (i + 1), by omega, rfl, hlt, p'⟩, fun x H' y => ?_⟩
    obtain ⟨e, y⟩ := y
    subst e
    exact hs i x σ _ (y xs q) p
  · have e : i = xs.length := by omega
    subst e
    exact .inl ⟨⟨xs, q, Nat.le_refl _⟩, hd σ H p⟩
theorem for_range {lo : Int} {n : Nat} {g : TG} {tb : TS} {D : Ends} {σ : St} {H : Hp} (Pv : Nat → St → Hp → Prop) (h0 : Pv 0 σ H)
    (hs : ∀ i σ H, i < n → Pv i σ H → g (.int (lo + i)) σ H fun σ2 H2 => tb { D with nx := Pv (i + 1), ct := Pv (i + 1), bk := D.nx } σ2 H2) (hd : ∀ σ H, Pv n σ H → D.nx σ H) :
    ∃ W : Nat → Nat → St → Hp → Prop, (∃ m, W 0 m σ H) ∧ ∀ i m σ H, W i m σ H →
      ((Itr lo n).stop i H ∧ D.nx σ H) ∨ ((Itr lo n).go i H ∧ ∃ N : St → Hp → Prop, (∀ σ' H', N σ' H' → ∃ m', m' < m ∧ W (i + 1) m' σ' H') ∧ ∀ x H', (Itr lo n).yld i H x H' → g x σ H' fun σ2 H2 => tb { D with nx := N, ct := N, bk := D.nx } σ2 H2) := by
  refine ⟨fun i m σ H => m = n - i ∧ i ≤ n ∧ Pv i σ H, ⟨n, by simp, Nat.zero_le _, h0⟩, ?_⟩
  rintro i m σ H ⟨rfl, hi, p⟩
  by_cases hlt : i < n
  · refine .inr ⟨hlt, Pv (i + 1), fun σ' H' p' => ⟨n - (i + 1), by omega, rfl, hlt, p'⟩, fun x H' y => ?_⟩
    obtain ⟨e, y⟩ := y
    subst e y
    exact hs i σ _ hlt p
  · have e : i = n := by omega
    subst e
    exact .inl ⟨Nat.le_refl _, hd σ H p⟩
/-- while, by a word and a measure of the state -/
theorem while_by {c : TT} {tb : TS} {D : Ends} {σ : St} {H : Hp} (Pv : St → Hp → Prop) (μ : St → Hp → Nat) (h0 : Pv σ H)
    (hs : ∀ σ H, Pv σ H → c σ H fun b H1 => if b = true then tb { D with nx := fun σ' H' => Pv σ' H' ∧ μ σ' H' < μ σ H, ct := fun σ' H' => Pv σ' H' ∧ μ σ' H' < μ σ H, bk := D.nx } σ H1 else D.nx σ H1)
    (mono : ∀ σ H Q Q', (∀ b H1, Q b H1 → Q' b H1) → c σ H Q → c σ H Q') : tWhile c tb D σ H := by
  refine ⟨fun m σ H => m = μ σ H ∧ Pv σ H, ⟨_, rfl, h0⟩, ?_⟩
  rintro m σ H ⟨rfl, p⟩
  refine mono σ H _ _ (fun b H1 q => ?_) (hs σ H p)
  cases b with
  | true => exact ⟨_, fun σ' H' ⟨p', l⟩ => ⟨_, l, rfl, p'⟩, q⟩
  | false => exact q
end L2

namespace L2
open PySem PySem.Spec PyProof.Rows

abbrev R2 := V → V → Hp → VK → Prop
/-- a two-place operation on values: f is binaryOp op, inplaceOp op or compareOp op -/
def OpR (X : Cx) (f : Value → Value → Sem Value) (r : R2) : Prop :=
  ∀ (pins : List (Addr × Obj)) (s : Shared) (σ : St) (H : Hp) (x y : V) (v u : Value) (Q : VK), Inv X pins σ H s → RelV x v → RelV y u → r x y H Q →
    wpAny (model X.prog X.w) X.A (f v u) (EP X pins σ Q) X.xe s
/-- a one-place operation -/
def UnR (X : Cx) (f : Value → Sem Value) (r : V → Hp → VK → Prop) : Prop :=
  ∀ (pins : List (Addr × Obj)) (s : Shared) (σ : St) (H : Hp) (x : V) (v : Value) (Q : VK), Inv X pins σ H s → RelV x v → r x H Q →
    wpAny (model X.prog X.w) X.A (f v) (EP X pins σ Q) X.xe s
/-- a call of a value that is known (a builtin, a type) with values -/
def CallR (X : Cx) (f : Value) (r : List V → Hp → VK → Prop) : Prop :=
  ∀ (pins : List (Addr × Obj)) (s : Shared) (σ : St) (H : Hp) (xs : List V) (us : List Value) (Q : VK), Inv X pins σ H s → Vals xs us → r xs H Q →
    wpAny (model X.prog X.w) X.A (call f us) (EP X pins σ Q) X.xe s
/-- a value's truth -/
def TruR (X : Cx) (r : V → Hp → (Bool → Hp → Prop) → Prop) : Prop :=
  ∀ (pins : List (Addr × Obj)) (s : Shared) (σ : St) (H : Hp) (x : V) (v : Value) (Q : Bool → Hp → Prop), Inv X pins σ H s → RelV x v → r x H Q →
    wpAny (model X.prog X.w) X.A (truthy v) (TP X pins σ Q) X.xe s

def tOp (r : R2) (ta tb : TE) : TE := fun σ H Q => ta σ H fun x H1 => tb σ H1 fun y H2 => r x y H2 Q
def tUn (r : V → Hp → VK → Prop) (ta : TE) : TE := fun σ H Q => ta σ H fun x H1 => r x H1 Q
/-- ints in, under C, and a value out -/
def rI (C : Int → Int → Prop) (g : Int → Int → V) : R2 := fun x y H Q => ∃ i j, x = .int i ∧ y = .int j ∧ C i j ∧ Q (g i j) H
def rI0 (g : Int → Int → V) : R2 := fun x y H Q => ∃ i j, x = .int i ∧ y = .int j ∧ Q (g i j) H
def rU (g : Int → V) : V → Hp → VK → Prop := fun x H Q => ∃ i, x = .int i ∧ Q (g i) H

section
variable {X : Cx} {a b c : Expr} {ta tb tc : TE} {pos : Pos}

theorem binT (ha : PE X a ta) (hb : PE X b tb) {pins : List (Addr × Obj)} {s : Shared} {σ : St} {H : Hp} {R : V → V → Hp → Prop} (I : Inv X pins σ H s)
    (h : ta σ H fun x H1 => tb σ H1 fun y H2 => R x y H2) {Q : Value → Shared → Prop} {f : Value → Value → Sem Value}
    (hf : ∀ v u s2 x y H2, Inv X pins σ H2 s2 → RelV x v → RelV y u → R x y H2 → wpAny (model X.prog X.w) X.A (f v u) Q X.xe s2) :
    wpAny (model X.prog X.w) X.A (eval a X.env) (fun v s₁ => wpAny (model X.prog X.w) X.A (eval b X.env) (fun u s₂ => wpAny (model X.prog X.w) X.A (f v u) Q X.xe s₂) X.xe s₁) X.xe s := by
  refine thn (ha pins s σ H _ I h) fun v s1 ⟨x, H1, I1, r1, q1⟩ => ?_
  refine thn (hb pins s1 σ H1 _ I1 q1) fun u s2 ⟨y, H2, I2, r2, q2⟩ => ?_
  exact hf v u s2 x y H2 I2 r1 r2 q2

theorem pe_op {op : Operator} {r : R2} (ho : OpR X (binaryOp op) r) (ha : PE X a ta) (hb : PE X b tb) : PE X (.BinOp a op b pos) (tOp r ta tb) := by
  intro pins s σ H Q I h
  exact wpAny_BinOp (binT ha hb I h fun v u s2 x y H2 I2 rx ry q => ho pins s2 σ H2 x y v u Q I2 rx ry q)
theorem pe_un {op : UnaryOp} {r : V → Hp → VK → Prop} (ho : UnR X (unaryOp op) r) (ha : PE X a ta) : PE X (.UnaryOp op a pos) (tUn r ta) := by
  intro pins s σ H Q I h
  exact UnaryOp_ (thn (ha pins s σ H _ I h) fun v s1 ⟨x, H1, I1, r1, q1⟩ => ho pins s1 σ H1 x v Q I1 r1 q1)
/-- a op= e at a name: the name's slot i -/
theorem augR {op : Operator} {r : R2} (ho : OpR X (inplaceOp op) r) {pins : List (Addr × Obj)} {s : Shared} {σ : St} {H : Hp} {x y : V} {v u : Value} {Q : VK} (I : Inv X pins σ H s)
    (rx : RelV x v) (ry : RelV y u) (q : r x y H Q) : wpAny (model X.prog X.w) X.A (inplaceOp op v u) (EP X pins σ Q) X.xe s := ho pins s σ H x y v u Q I rx ry q

/-! ### ints -/
theorem opI {f : Value → Value → Sem Value} {C : Int → Int → Prop} {g : Int → Int → Int}
    (rule : ∀ (i j : Int) (t u : Tok) (s : Shared) (Q : Value → Shared → Prop) (E : Value → Shared → Prop), C i j → Q (.int (g i j) s.toks) { s with toks := s.toks + 1 } → wpAny (model X.prog X.w) X.A (f (.int i t) (.int j u)) Q E s) :
    OpR X f (rI C fun i j => .int (g i j)) := by
  intro pins s σ H x y v u Q I rx ry h
  obtain ⟨i, j, rfl, rfl, hc, q⟩ := h
  obtain ⟨t, rfl⟩ := rx
  obtain ⟨t', rfl⟩ := ry
  exact rule i j t t' s _ _ hc ⟨.int (g i j), H, I.tok _, ⟨_, rfl⟩, q⟩
theorem opI0 {f : Value → Value → Sem Value} {g : Int → Int → Int}
    (rule : ∀ (i j : Int) (t u : Tok) (s : Shared) (Q : Value → Shared → Prop) (E : Value → Shared → Prop), Q (.int (g i j) s.toks) { s with toks := s.toks + 1 } → wpAny (model X.prog X.w) X.A (f (.int i t) (.int j u)) Q E s) :
    OpR X f (rI0 fun i j => .int (g i j)) := by
  intro pins s σ H x y v u Q I rx ry h
  obtain ⟨i, j, rfl, rfl, q⟩ := h
  obtain ⟨t, rfl⟩ := rx
  obtain ⟨t', rfl⟩ := ry
  exact rule i j t t' s _ _ ⟨.int (g i j), H, I.tok _, ⟨_, rfl⟩, q⟩
theorem opB0 {f : Value → Value → Sem Value} {g : Int → Int → Bool}
    (rule : ∀ (i j : Int) (t u : Tok) (s : Shared) (Q : Value → Shared → Prop) (E : Value → Shared → Prop), Q (.bool (g i j)) s → wpAny (model X.prog X.w) X.A (f (.int i t) (.int j u)) Q E s) :
    OpR X f (rI0 fun i j => .bl (g i j)) := by
  intro pins s σ H x y v u Q I rx ry h
  obtain ⟨i, j, rfl, rfl, q⟩ := h
  obtain ⟨t, rfl⟩ := rx
  obtain ⟨t', rfl⟩ := ry
  exact rule i j t t' s _ _ ⟨.bl (g i j), H, I, rfl, q⟩

def CDiv (i j : Int) : Prop := 0 < j ∧ j < 1073741824
def CDivN (i j : Int) : Prop := j ≠ 0 ∧ j.natAbs < 1073741824
def CPow (i j : Int) : Prop := 0 ≤ j ∧ j ≤ 1000000 ∧ i.natAbs < 2 ^ 64
def CMul (i j : Int) : Prop := (-(2 ^ 64) < i ∧ i < 2 ^ 64) ∨ (-(2 ^ 64) < j ∧ j < 2 ^ 64)
theorem CMul.ok {i j : Int} (h : CMul i j) : IntMulOk i j := by
  rcases h with ⟨h1, h2⟩ | ⟨h1, h2⟩
  · exact .of_left (intBits_le_64 h1 h2)
  · exact .of_right (intBits_le_64 h1 h2)
theorem two_pow_nn (k : Nat) : (0 : Int) ≤ 2 ^ k := by
  rw [two_pow_cast]
  exact Int.natCast_nonneg _

theorem op_add : OpR X (binaryOp .Add) (rI0 fun i j => .int (i + j)) := opI0 fun _ _ _ _ _ _ _ q => add_int q
theorem op_sub : OpR X (binaryOp .Sub) (rI0 fun i j => .int (i - j)) := opI0 fun _ _ _ _ _ _ _ q => sub_int q
theorem op_mul : OpR X (binaryOp .Mult) (rI CMul fun i j => .int (i * j)) := opI fun _ _ _ _ _ _ _ hc q => mul_int q hc.ok
/-- // by a positive divisor -/
theorem op_fdiv : OpR X (binaryOp .FloorDiv) (rI CDiv fun i j => .int (i / j)) := opI fun i j _ _ _ _ _ hc q => by
  have h1 : (0 : Int) < j := hc.1
  have h2 : j < 1073741824 := hc.2
  exact floordiv_int (by omega) (by rw [Int.fdiv_eq_ediv_of_nonneg i (by omega)]; exact q) (.inl (PyProof.noPylong_small (by omega)))
theorem op_fdivN : OpR X (binaryOp .FloorDiv) (rI CDivN fun i j => .int (i.fdiv j)) := opI fun _ _ _ _ _ _ _ hc q => floordiv_int hc.1 q (.inl (PyProof.noPylong_small hc.2))
/-- % by a positive divisor of any size -/
theorem op_mod : OpR X (binaryOp .Mod) (rI (fun _ j => 0 < j) fun i j => .int (i % j)) := opI fun i j _ _ _ _ _ hc q => by
  have h1 : (0 : Int) < j := hc
  exact mod_int' (by omega) (by rw [Int.fmod_eq_emod_of_nonneg i (by omega)]; exact q)
theorem op_modN : OpR X (binaryOp .Mod) (rI (fun _ j => j ≠ 0) fun i j => .int (i.fmod j)) := opI fun _ _ _ _ _ _ _ hc q => mod_int' hc q
theorem op_pow : OpR X (binaryOp .Pow) (rI CPow fun i j => .int (i ^ j.toNat)) := opI fun _ _ _ _ _ _ _ hc q => pow_int_small hc.1 hc.2.1 hc.2.2 q
theorem op_shl : OpR X (binaryOp .LShift) (rI CPow fun i j => .int (i * 2 ^ j.toNat)) := opI fun _ _ _ _ _ _ _ hc q => lshift_int_small hc.1 hc.2.1 hc.2.2 q
theorem op_shr : OpR X (binaryOp .RShift) (rI (fun _ j => 0 ≤ j) fun i j => .int (i / 2 ^ j.toNat)) := opI fun i j _ _ _ _ _ hc q =>
  rshift_int hc (by rw [Int.fdiv_eq_ediv_of_nonneg i (two_pow_nn _)]; exact q)
theorem op_and : OpR X (binaryOp .BitAnd) (rI0 fun i j => .int (Builtin.bitAnd i j)) := opI0 fun _ _ _ _ _ _ _ q => and_int q
theorem op_or : OpR X (binaryOp .BitOr) (rI0 fun i j => .int (Builtin.bitOr i j)) := opI0 fun _ _ _ _ _ _ _ q => or_int q
theorem op_xor : OpR X (binaryOp .BitXor) (rI0 fun i j => .int (Builtin.bitXor i j)) := opI0 fun _ _ _ _ _ _ _ q => xor_int q

theorem iop_add : OpR X (inplaceOp .Add) (rI0 fun i j => .int (i + j)) := opI0 fun _ _ _ _ _ _ _ q => iadd_int q
theorem iop_sub : OpR X (inplaceOp .Sub) (rI0 fun i j => .int (i - j)) := opI0 fun _ _ _ _ _ _ _ q => isub_int q
theorem iop_mul : OpR X (inplaceOp .Mult) (rI CMul fun i j => .int (i * j)) := opI fun _ _ _ _ _ _ _ hc q => imul_int q hc.ok
theorem iop_fdiv : OpR X (inplaceOp .FloorDiv) (rI CDiv fun i j => .int (i / j)) := opI fun i j _ _ _ _ _ hc q => by
  have h1 : (0 : Int) < j := hc.1
  have h2 : j < 1073741824 := hc.2
  exact ifloordiv_int (by omega) (by rw [Int.fdiv_eq_ediv_of_nonneg i (by omega)]; exact q) (.inl (PyProof.noPylong_small (by omega)))
theorem iop_mod : OpR X (inplaceOp .Mod) (rI (fun _ j => 0 < j) fun i j => .int (i % j)) := opI fun i j _ _ _ _ _ hc q => by
  have h1 : (0 : Int) < j := hc
  exact imod_int (by omega) (by rw [Int.fmod_eq_emod_of_nonneg i (by omega)]; exact q)
theorem iop_shl : OpR X (inplaceOp .LShift) (rI CPow fun i j => .int (i * 2 ^ j.toNat)) := opI fun _ _ _ _ _ _ _ hc q => ilshift_int_small hc.1 hc.2.1 hc.2.2 q
theorem iop_shr : OpR X (inplaceOp .RShift) (rI (fun _ j => 0 ≤ j) fun i j => .int (i / 2 ^ j.toNat)) := opI fun i j _ _ _ _ _ hc q =>
  irshift_int hc (by rw [Int.fdiv_eq_ediv_of_nonneg i (two_pow_nn _)]; exact q)
theorem iop_and : OpR X (inplaceOp .BitAnd) (rI0 fun i j => .int (Builtin.bitAnd i j)) := opI0 fun _ _ _ _ _ _ _ q => iand_int q
theorem iop_or : OpR X (inplaceOp .BitOr) (rI0 fun i j => .int (Builtin.bitOr i j)) := opI0 fun _ _ _ _ _ _ _ q => ior_int q
theorem iop_xor : OpR X (inplaceOp .BitXor) (rI0 fun i j => .int (Builtin.bitXor i j)) := opI0 fun _ _ _ _ _ _ _ q => ixor_int q

theorem unI {f : Value → Sem Value} {g : Int → Int}
    (rule : ∀ (i : Int) (t : Tok) (s : Shared) (Q : Value → Shared → Prop) (E : Value → Shared → Prop), Q (.int (g i) s.toks) { s with toks := s.toks + 1 } → wpAny (model X.prog X.w) X.A (f (.int i t)) Q E s) :
    UnR X f (rU fun i => .int (g i)) := by
  intro pins s σ H x v Q I rx h
  obtain ⟨i, rfl, q⟩ := h
  obtain ⟨t, rfl⟩ := rx
  exact rule i t s _ _ ⟨.int (g i), H, I.tok _, ⟨_, rfl⟩, q⟩
theorem un_neg : UnR X (unaryOp .USub) (rU fun i => .int (-i)) := unI fun _ _ _ _ _ q => neg_int q
theorem un_inv : UnR X (unaryOp .Invert) (rU fun i => .int (Builtin.bitNot i)) := unI fun _ _ _ _ _ q => invert_int q

/-! ### bools among ints: n += (a < b) -/
theorem op_add_ib : OpR X (binaryOp .Add) (fun x y H Q => ∃ i k, x = .int i ∧ y = .bl k ∧ Q (.int (i + b2i k)) H) := by
  intro pins s σ H x y v u Q I rx ry h
  obtain ⟨i, k, rfl, rfl, q⟩ := h
  obtain ⟨t, rfl⟩ := rx
  cases ry
  exact add_int_bool ⟨.int (i + b2i k), H, I.tok _, ⟨_, rfl⟩, q⟩
end

/-! ### comparisons -/
/-- the scalars that == tells apart as data does -/
def scal : V → V → Bool
  | .non, .non => true | .non, .int _ => true | .int _, .non => true | .non, .bl _ => true | .bl _, .non => true | .non, .str _ => true | .str _, .non => true
  | .int _, .int _ => true | .bl _, .bl _ => true | .str _, .str _ => true | .byt _, .byt _ => true
  | .int _, .str _ => true | .str _, .int _ => true | .bl _, .str _ => true | .str _, .bl _ => true
  | _, _ => false
def rEq : R2 := fun x y H Q => scal x y = true ∧ Q (.bl (decide (x = y))) H
def rNe : R2 := fun x y H Q => scal x y = true ∧ Q (.bl (!decide (x = y))) H

theorem dec_int {i j : Int} : decide (V.int i = V.int j) = (i == j) := by
  rw [Bool.eq_iff_iff]
  simp
theorem dec_bl {i j : Bool} : decide (V.bl i = V.bl j) = (i == j) := by
  rw [Bool.eq_iff_iff]
  simp
theorem dec_str {i j : Str} : decide (V.str i = V.str j) = (i == j) := by
  rw [Bool.eq_iff_iff]
  simp
theorem dec_byt {i j : Array UInt8} : decide (V.byt i = V.byt j) = (i.toList == j.toList) := by
  rw [Bool.eq_iff_iff]
  cases i
  cases j
  simp

section
variable {X : Cx} {a b c : Expr} {ta tb tc : TE} {pos : Pos}
theorem fin_bl {pins : List (Addr × Obj)} {σ : St} {H : Hp} {s : Shared} {Q : VK} {k k' : Bool} (I : Inv X pins σ H s) (q : Q (.bl k) H) (e : k = k') : EP X pins σ Q (.bool k') s := by
  subst e
  exact ⟨.bl k, H, I, rfl, q⟩
theorem op_eq : OpR X (compareOp .Eq) rEq := by
  intro pins s σ H x y v u Q I rx ry h
  obtain ⟨hs, q⟩ := h
  cases x with
  | non =>
    cases rx
    cases y with
    | non => cases ry; exact PySem.EqNone.eq_none_none (fin_bl I q (by simp))
    | bl j => cases ry; exact PySem.EqNone.eq_none_bool (fin_bl I q (by simp))
    | int j => obtain ⟨t', rfl⟩ := ry; exact PySem.EqNone.eq_none_int (fin_bl I q (by simp))
    | str j => obtain ⟨t', rfl⟩ := ry; exact PySem.EqNone.eq_none_str (fin_bl I q (by simp))
    | _ => exact absurd (show false = true from hs) Bool.false_ne_true
  | bl i =>
    cases rx
    cases y with
    | non => cases ry; exact PySem.EqNone.eq_bool_none (fin_bl I q (by simp))
    | bl j => cases ry; exact eq_bool (fin_bl I q dec_bl)
    | str j => obtain ⟨t', rfl⟩ := ry; exact PySem.EqMixed.eq_bool_str (fin_bl I q (by simp))
    | _ => exact absurd (show false = true from hs) Bool.false_ne_true
  | int i =>
    obtain ⟨t, rfl⟩ := rx
    cases y with
    | non => cases ry; exact PySem.EqNone.eq_int_none (fin_bl I q (by simp))
    | int j => obtain ⟨t', rfl⟩ := ry; exact eq_int (fin_bl I q dec_int)
    | str j => obtain ⟨t', rfl⟩ := ry; exact PySem.EqMixed.eq_int_str (fin_bl I q (by simp))
    | _ => exact absurd (show false = true from hs) Bool.false_ne_true
  | str i =>
    obtain ⟨t, rfl⟩ := rx
    cases y with
    | non => cases ry; exact PySem.EqNone.eq_str_none (fin_bl I q (by simp))
    | bl j => cases ry; exact PySem.EqMixed.eq_str_bool (fin_bl I q (by simp))
    | int j => obtain ⟨t', rfl⟩ := ry; exact PySem.EqMixed.eq_str_int (fin_bl I q (by simp))
    | str j => obtain ⟨t', rfl⟩ := ry; exact eq_str (fin_bl I q dec_str)
    | _ => exact absurd (show false = true from hs) Bool.false_ne_true
  | byt i =>
    obtain ⟨t, rfl⟩ := rx
    cases y with
    | byt j => obtain ⟨t', rfl⟩ := ry; exact PySem.W.eq_bytes (fin_bl I q dec_byt)
    | _ => exact absurd (show false = true from hs) Bool.false_ne_true
  | _ => cases y <;> exact absurd (show false = true from hs) Bool.false_ne_true
theorem op_ne : OpR X (compareOp .NotEq) rNe := by
  intro pins s σ H x y v u Q I rx ry h
  obtain ⟨hs, q⟩ := h
  cases x with
  | non =>
    cases rx
    cases y with
    | non => cases ry; exact PySem.EqNone.ne_none_none (fin_bl I q (by simp))
    | bl j => cases ry; exact PySem.EqNone.ne_none_bool (fin_bl I q (by simp))
    | int j => obtain ⟨t', rfl⟩ := ry; exact PySem.EqNone.ne_none_int (fin_bl I q (by simp))
    | str j => obtain ⟨t', rfl⟩ := ry; exact PySem.EqNone.ne_none_str (fin_bl I q (by simp))
    | _ => exact absurd (show false = true from hs) Bool.false_ne_true
  | bl i =>
    cases rx
    cases y with
    | non => cases ry; exact PySem.EqNone.ne_bool_none (fin_bl I q (by simp))
    | bl j => cases ry; exact ne_bool (fin_bl I q (congrArg not dec_bl))
    | str j => obtain ⟨t', rfl⟩ := ry; exact PySem.EqMixed.ne_bool_str (fin_bl I q (by simp))
    | _ => exact absurd (show false = true from hs) Bool.false_ne_true
  | int i =>
    obtain ⟨t, rfl⟩ := rx
    cases y with
    | non => cases ry; exact PySem.EqNone.ne_int_none (fin_bl I q (by simp))
    | int j => obtain ⟨t', rfl⟩ := ry; exact ne_int (fin_bl I q (congrArg not dec_int))
    | str j => obtain ⟨t', rfl⟩ := ry; exact PySem.EqMixed.ne_int_str (fin_bl I q (by simp))
    | _ => exact absurd (show false = true from hs) Bool.false_ne_true
  | str i =>
    obtain ⟨t, rfl⟩ := rx
    cases y with
    | non => cases ry; exact PySem.EqNone.ne_str_none (fin_bl I q (by simp))
    | bl j => cases ry; exact PySem.EqMixed.ne_str_bool (fin_bl I q (by simp))
    | int j => obtain ⟨t', rfl⟩ := ry; exact PySem.EqMixed.ne_str_int (fin_bl I q (by simp))
    | str j => obtain ⟨t', rfl⟩ := ry; exact ne_str (fin_bl I q (congrArg not dec_str))
    | _ => exact absurd (show false = true from hs) Bool.false_ne_true
  | byt i =>
    obtain ⟨t, rfl⟩ := rx
    cases y with
    | byt j => obtain ⟨t', rfl⟩ := ry; exact PySem.W.ne_bytes (fin_bl I q (congrArg not dec_byt))
    | _ => exact absurd (show false = true from hs) Bool.false_ne_true
  | _ => cases y <;> exact absurd (show false = true from hs) Bool.false_ne_true

theorem op_lt : OpR X (compareOp .Lt) (rI0 fun i j => .bl (decide (i < j))) := opB0 fun _ _ _ _ _ _ _ q => lt_int q
theorem op_le : OpR X (compareOp .LtE) (rI0 fun i j => .bl (decide (i ≤ j))) := opB0 fun _ _ _ _ _ _ _ q => le_int q
theorem op_gt : OpR X (compareOp .Gt) (rI0 fun i j => .bl (decide (j < i))) := opB0 fun _ _ _ _ _ _ _ q => gt_int q
theorem op_ge : OpR X (compareOp .GtE) (rI0 fun i j => .bl (decide (j ≤ i))) := opB0 fun _ _ _ _ _ _ _ q => ge_int q
theorem op_lt_str : OpR X (compareOp .Lt) (fun x y H Q => ∃ i j, x = .str i ∧ y = .str j ∧ Q (.bl (decide (i.cps.toList < j.cps.toList))) H) := by
  intro pins s σ H x y v u Q I rx ry h
  obtain ⟨i, j, rfl, rfl, q⟩ := h
  obtain ⟨t, rfl⟩ := rx
  obtain ⟨t', rfl⟩ := ry
  exact lt_str (fin_bl I q rfl)
/-- the one string within the other -/
theorem op_in_str : OpR X (compareOp .In) (fun x y H Q => ∃ i j, x = .str i ∧ y = .str j ∧ Q (.bl (!(Builtin.Str.occurrences j i 0 j.length 1).isEmpty)) H) := by
  intro pins s σ H x y v u Q I rx ry h
  obtain ⟨i, j, rfl, rfl, q⟩ := h
  obtain ⟨t, rfl⟩ := rx
  obtain ⟨t', rfl⟩ := ry
  exact in_str (fin_bl I q rfl)

/-- is None, is not None: the right side a value none -/
theorem op_isN : OpR X (compareOp .Is) (fun x y H Q => y = .non ∧ Q (.bl (decide (x = .non))) H) := by
  intro pins s σ H x y v u Q I rx ry h
  obtain ⟨rfl, q⟩ := h
  cases ry
  refine is_none_gen (fin_bl I q ?_)
  cases x <;> first
    | (cases rx; rfl)
    | (obtain ⟨t, rfl⟩ := rx; rfl)
theorem op_notN : OpR X (compareOp .IsNot) (fun x y H Q => y = .non ∧ Q (.bl (!decide (x = .non))) H) := by
  intro pins s σ H x y v u Q I rx ry h
  obtain ⟨rfl, q⟩ := h
  cases ry
  refine isnot_none_gen (fin_bl I q ?_)
  cases x <;> first
    | (cases rx; rfl)
    | (obtain ⟨t, rfl⟩ := rx; rfl)

theorem op_notin_str : OpR X (compareOp .NotIn) (fun x y H Q => ∃ i j, x = .str i ∧ y = .str j ∧ Q (.bl (!(!(Builtin.Str.occurrences j i 0 j.length 1).isEmpty))) H) := by
  intro pins s σ H x y v u Q I rx ry h
  obtain ⟨i, j, rfl, rfl, q⟩ := h
  obtain ⟨t, rfl⟩ := rx
  obtain ⟨t', rfl⟩ := ry
  exact notIn_str (fin_bl I q rfl)
/-- is, is not of two objects that are tracked lists or instances -/
def isObj : HO → Bool
  | .lst _ => true
  | .ins _ _ _ => true
  | _ => false
theorem obj_there {pins : List (Addr × Obj)} {s : Shared} {σ : St} {H : Hp} {a : Addr} {o : HO} (I : Inv X pins σ H s) (h : H a = some o) (p : isObj o = true) : ∃ ob, s.heap.get? a = some ob ∧ ob.cls ≠ .type "tuple" := by
  cases o with
  | lst xs =>
    obtain ⟨_, its, n, _, e⟩ : xs.length ≤ sizeLine ∧ ∃ (its : List Value) (n : Nat), Vals xs its ∧ s.heap.get? a = some { cls := .type "list", data := .seq its.toArray n } := I.hok a _ h
    exact ⟨_, e, (by show Value.type "list" ≠ .type "tuple"; decide +kernel)⟩
  | ins C dx fs =>
    have x := I.hok a _ h
    obtain ⟨_, _, _, e, _⟩ := x
    exact ⟨_, e, (by show Value.ref C ≠ .type "tuple"; exact fun z => by cases z)⟩
  | _ => exact absurd (show false = true from p) Bool.false_ne_true
theorem op_is_ref : OpR X (compareOp .Is) (fun x y H Q => ∃ a b oa ob, x = .ref a ∧ y = .ref b ∧ H a = some oa ∧ isObj oa = true ∧ H b = some ob ∧ isObj ob = true ∧ Q (.bl (decide (a = b))) H) := by
  intro pins s σ H x y v u Q I rx ry h
  obtain ⟨a, b, oa, ob, rfl, rfl, ha, pa, hb, pb, q⟩ := h
  cases rx
  cases ry
  obtain ⟨o1, e1, n1⟩ := obj_there I ha pa
  obtain ⟨o2, e2, _⟩ := obj_there I hb pb
  by_cases z : a = b
  · subst z
    exact wpAny_is_ref_self (fin_bl I q (by simp))
  · exact wpAny_is_ref_other z e1 e2 n1 (fin_bl I q (by simp [z]))
theorem op_isnot_ref : OpR X (compareOp .IsNot) (fun x y H Q => ∃ a b oa ob, x = .ref a ∧ y = .ref b ∧ H a = some oa ∧ isObj oa = true ∧ H b = some ob ∧ isObj ob = true ∧ Q (.bl (!decide (a = b))) H) := by
  intro pins s σ H x y v u Q I rx ry h
  obtain ⟨a, b, oa, ob, rfl, rfl, ha, pa, hb, pb, q⟩ := h
  cases rx
  cases ry
  obtain ⟨o1, e1, n1⟩ := obj_there I ha pa
  obtain ⟨o2, e2, _⟩ := obj_there I hb pb
  by_cases z : a = b
  · subst z
    exact wpAny_isNot_ref_self (fin_bl I q (by simp))
  · exact wpAny_isNot_ref_other z e1 e2 n1 (fin_bl I q (by simp [z]))

/-- two rules for one operation: by cases -/
theorem OpR.or {f : Value → Value → Sem Value} {r r' : R2} (h : OpR X f r) (h' : OpR X f r') : OpR X f (fun x y H Q => r x y H Q ∨ r' x y H Q) := by
  intro pins s σ H x y v u Q I rx ry q
  rcases q with q | q
  · exact h pins s σ H x y v u Q I rx ry q
  · exact h' pins s σ H x y v u Q I rx ry q

theorem nomark (b : Expr) {op : CmpOp} (h : op ≠ .In := by decide) (h2 : op ≠ .NotIn := by decide) : behindInMarks op b = false := by
  have e1 : (op == CmpOp.In) = false := by cases op <;> first | rfl | exact absurd rfl h
  have e2 : (op == CmpOp.NotIn) = false := by cases op <;> first | rfl | exact absurd rfl h2
  cases b <;> simp [behindInMarks, e1, e2]
/-- a comparison as a value; hm: nomark b, or (for in, not in) by with_unfolding_all rfl -/
theorem pe_cmpR {op : CmpOp} {r : R2} (ho : OpR X (compareOp op) r) (ha : PE X a ta) (hb : PE X b tb) (hm : behindInMarks op b = false) : PE X (.Compare a [op] [b] pos) (tOp r ta tb) := by
  intro pins s σ H Q I h
  exact wpAny_Compare1 (binT ha hb I h fun v u s2 x y H2 I2 rx ry q => ho pins s2 σ H2 x y v u Q I2 rx ry q) hm
/-- a reading of a value as a test -/
def tTest (t : TE) : TT := fun σ H Q => t σ H fun x H' => ∃ k, x = .bl k ∧ Q k H'
theorem pt_cmpR {op : CmpOp} {r : R2} (ho : OpR X (compareOp op) r) (ha : PE X a ta) (hb : PE X b tb) (hm : behindInMarks op b = false) : PT X (.Compare a [op] [b] pos) (tTest (tOp r ta tb)) := by
  intro pins s σ H Q I h
  refine wpAny_isTrue_Compare1 (thn (ha pins s σ H _ I h) fun v s1 ⟨x, H1, I1, r1, q1⟩ => thn (hb pins s1 σ H1 _ I1 q1) fun u s2 ⟨y, H2, I2, r2, q2⟩ =>
    thn (ho pins s2 σ H2 x y v u _ I2 r1 r2 q2) fun c s3 ⟨z, H3, I3, r3, k, e, q3⟩ => ?_) hm
  subst e
  cases r3
  exact wpAny_truthy_bool ⟨H3, I3, q3⟩
/-- a op1 b op2 c -/
def tChain (r r' : R2) (ta tb tc : TE) : TE := fun σ H Q => ta σ H fun x H1 => tb σ H1 fun y H2 => r x y H2 fun z H3 => ∃ k, z = .bl k ∧
  (if k = true then tc σ H3 fun w' H4 => r' y w' H4 Q else Q (.bl false) H3)
theorem pe_chain {op op' : CmpOp} {r r' : R2} (ho : OpR X (compareOp op) r) (ho' : OpR X (compareOp op') r') (ha : PE X a ta) (hb : PE X b tb) (hc : PE X c tc)
    (hm : lastMarks [op, op'] [b, c] = false := by with_unfolding_all rfl) : PE X (.Compare a [op, op'] [b, c] pos) (tChain r r' ta tb tc) := by
  intro pins s σ H Q I h
  refine Compare_chain (thn (ha pins s σ H _ I h) fun v s1 ⟨x, H1, I1, r1, q1⟩ => chain_link (thn (hb pins s1 σ H1 _ I1 q1) fun u s2 ⟨y, H2, I2, r2, q2⟩ =>
    thn (ho pins s2 σ H2 x y v u _ I2 r1 r2 q2) fun d s3 ⟨z, H3, I3, r3, k, e, q3⟩ => ?_)) hm
  subst e
  cases r3
  refine wpAny_truthy_bool ?_
  cases k with
  | false => exact ite_ff ⟨.bl false, H3, I3, rfl, q3⟩
  | true => exact ite_tt (chain_last (thn (hc pins s3 σ H3 _ I3 q3) fun w' s4 ⟨z', H4, I4, r4, q4⟩ => ho' pins s4 σ H4 y z' u w' Q I4 r2 r4 q4))
theorem pt_chain {op op' : CmpOp} {r r' : R2} (ho : OpR X (compareOp op) r) (ho' : OpR X (compareOp op') r') (ha : PE X a ta) (hb : PE X b tb) (hc : PE X c tc)
    (hm : lastMarks [op, op'] [b, c] = false := by with_unfolding_all rfl) : PT X (.Compare a [op, op'] [b, c] pos) (tTest (tChain r r' ta tb tc)) := by
  intro pins s σ H Q I h
  refine isTrue_chain (thn (ha pins s σ H _ I h) fun v s1 ⟨x, H1, I1, r1, q1⟩ => test_link (thn (hb pins s1 σ H1 _ I1 q1) fun u s2 ⟨y, H2, I2, r2, q2⟩ =>
    thn (ho pins s2 σ H2 x y v u _ I2 r1 r2 q2) fun d s3 ⟨z, H3, I3, r3, k, e, q3⟩ => ?_)) hm
  subst e
  cases r3
  refine wpAny_truthy_bool ?_
  cases k with
  | false =>
    obtain ⟨k', e', q'⟩ := q3
    cases e'
    exact ite_ff ⟨H3, I3, q'⟩
  | true =>
    refine ite_tt (test_last (thn (hc pins s3 σ H3 _ I3 q3) fun w' s4 ⟨z', H4, I4, r4, q4⟩ => thn (ho' pins s4 σ H4 y z' u w' _ I4 r2 r4 q4) fun d' s5 ⟨z2, H5, I5, r5, k2, e2, q5⟩ => ?_))
    subst e2
    cases r5
    exact wpAny_truthy_bool ⟨H5, I5, q5⟩

/-! ### truth -/
/-- a value's truth by the abstract heap -/
def TruV (K : PySem.W.Frag) (x : V) (H : Hp) (k : Bool) : Prop :=
  match x with
  | .non => k = false
  | .bl b => k = b
  | .int i => k = (i != 0)
  | .str y => y.length ≤ sizeLine ∧ k = ((y.length : Int) != 0)
  | .byt y => y.size ≤ sizeLine ∧ k = ((y.size : Int) != 0)
  | .ref p => (∃ xs, SqL K H p xs ∧ k = !xs.isEmpty) ∨ (∃ xs, SqT K H p xs ∧ k = !xs.isEmpty) ∨ ∃ kvs, H p = some (.dK kvs) ∧ k = !kvs.isEmpty
  | _ => False
theorem isEmpty_kv {κ : Type} {kvs : List (κ × V)} {vs : List (κ × Value)} (r : KV kvs vs) : (!vs.isEmpty) = !kvs.isEmpty := by
  cases r <;> rfl
theorem isEmpty_of {xs : List V} {its : List Value} (r : Vals xs its) : (!its.toArray.isEmpty) = !xs.isEmpty := by
  cases r <;> simp
theorem line63 : (sizeLine : Nat) < 2 ^ 63 := by rw [sizeLine_eq]; decide
theorem tru_ok : TruR X (fun x H Q => ∃ k, TruV X.K x H k ∧ Q k H) := by
  intro pins s σ H x v Q I rx h
  obtain ⟨k, e, q⟩ := h
  have hl := line63
  have hs : sizeLine = 16777216 := sizeLine_eq
  cases x with
  | non =>
    cases rx
    have e' : k = false := e
    subst e'
    exact truthy_none ⟨H, I, q⟩
  | bl b =>
    cases rx
    have e' : k = b := e
    subst e'
    exact wpAny_truthy_bool ⟨H, I, q⟩
  | int i =>
    obtain ⟨t, rfl⟩ := rx
    have e' : k = (i != 0) := e
    subst e'
    exact PySem.P.truthy_int ⟨H, I, q⟩
  | str y =>
    obtain ⟨t, rfl⟩ := rx
    obtain ⟨hy, e'⟩ : y.length ≤ sizeLine ∧ k = ((y.length : Int) != 0) := e
    subst e'
    exact PySem.P.truthy_str (by omega) ⟨H, I.tok _, q⟩
  | byt y =>
    obtain ⟨t, rfl⟩ := rx
    obtain ⟨hy, e'⟩ : y.size ≤ sizeLine ∧ k = ((y.size : Int) != 0) := e
    subst e'
    exact PySem.W.truthy_bytes (by omega) ⟨H, I.tok _, q⟩
  | ref p =>
    cases rx
    have e' : (∃ xs, SqL X.K H p xs ∧ k = !xs.isEmpty) ∨ (∃ xs, SqT X.K H p xs ∧ k = !xs.isEmpty) ∨ ∃ kvs, H p = some (.dK kvs) ∧ k = !kvs.isEmpty := e
    rcases e' with ⟨xs, hx, e'⟩ | ⟨xs, hx, e'⟩ | ⟨kvs, hx, e'⟩
    · subst e'
      obtain ⟨its, r, pl, hz⟩ := I.list hx
      have hlen := r.length
      exact wpAny_truthy_list pl.isList (by simp only [List.size_toArray]; omega) ⟨H, I.tok _, by rw [isEmpty_of r]; exact q⟩
    · subst e'
      obtain ⟨its, r, pl, hz⟩ := I.tuple hx
      have hlen := r.length
      exact truthy_tuple pl (by simp only [List.size_toArray]; omega) ⟨H, I.tok _, by rw [isEmpty_of r]; exact q⟩
    · subst e'
      obtain ⟨hz, hS, vs, r, m⟩ : kvs.length ≤ sizeLine ∧ (p == sysModules) = false ∧ ∃ vs, KV kvs vs ∧ s.heap.DictOf (mixKind X.prog X.w) p vs := I.hok p _ hx
      have hlen : kvs.length = vs.length := Paired.length r
      exact wpAny_truthy_dict hS m (by omega) ⟨H, I.tok _, by rw [isEmpty_kv r]; exact q⟩
  | _ => exact (show False from e).elim
/-- any expression whose test is its value's truth (a name, a call, a subscript, a field ..: he by fun _ => rfl) -/
theorem pt_truth (ha : PE X a ta) (he : ∀ whole, isTrue a X.env whole = (do let v ← whole; standAt a.pos; holding [v] (truthy v))) :
    PT X a (fun σ H Q => ta σ H fun x H' => ∃ k, TruV X.K x H' k ∧ Q k H') := by
  intro pins s σ H Q I h
  exact isTrue_plain (thn (ha pins s σ H _ I h) fun v s1 ⟨x, H1, I1, r1, q1⟩ => tru_ok pins s1 σ H1 x v Q I1 r1 q1) (he _)

/-! ### strs and bytes -/
theorem pe_byt {x : List UInt8} {k : Nat} : PE X (.Constant (.bytes x) k pos) (fun _ H Q => Q (.byt x.toArray) H) := fun _ _ _ H _ I h => PySem.W.Constant_bytes ⟨.byt x.toArray, H, I.tok _, ⟨_, rfl⟩, h⟩
theorem op_add_str : OpR X (binaryOp .Add) (fun x y H Q => ∃ i j, x = .str i ∧ y = .str j ∧ i.length + j.length ≤ sizeLine ∧ Q (.str (i ++ j)) H) := by
  intro pins s σ H x y v u Q I rx ry h
  obtain ⟨i, j, rfl, rfl, hz, q⟩ := h
  obtain ⟨t, rfl⟩ := rx
  obtain ⟨t', rfl⟩ := ry
  exact add_str (fun t' tk => ⟨.str (i ++ j), H, I.tok _, ⟨_, rfl⟩, q⟩) hz
theorem iop_add_str : OpR X (inplaceOp .Add) (fun x y H Q => ∃ i j, x = .str i ∧ y = .str j ∧ i.length + j.length ≤ sizeLine ∧ Q (.str (i ++ j)) H) := by
  intro pins s σ H x y v u Q I rx ry h
  obtain ⟨i, j, rfl, rfl, hz, q⟩ := h
  obtain ⟨t, rfl⟩ := rx
  obtain ⟨t', rfl⟩ := ry
  exact iadd_str (fun t' tk => ⟨.str (i ++ j), H, I.tok _, ⟨_, rfl⟩, q⟩) hz
theorem op_add_byt : OpR X (binaryOp .Add) (fun x y H Q => ∃ i j, x = .byt i ∧ y = .byt j ∧ i.size + j.size ≤ 16777216 ∧ Q (.byt (i ++ j)) H) := by
  intro pins s σ H x y v u Q I rx ry h
  obtain ⟨i, j, rfl, rfl, hz, q⟩ := h
  obtain ⟨t, rfl⟩ := rx
  obtain ⟨t', rfl⟩ := ry
  exact PySem.W.KBy.add_bytes hz (fun t' tk => ⟨.byt (i ++ j), H, I.tok _, ⟨_, rfl⟩, q⟩)

def PlainIxT (b : Expr) : Prop := ∀ o i, subscripted b false o i = operate [o, i] (getItem o i)
/-- s[i], 0 ≤ i < len -/
theorem pe_item_str (ha : PE X a ta) (hb : PE X b tb) (hs : PlainIxT b) :
    PE X (.Subscript a b pos) (tOp (fun x y H Q => ∃ z i c, x = .str z ∧ y = .int i ∧ 0 ≤ i ∧ i < 2 ^ 63 ∧ i < z.length ∧ z.cps[i.toNat]? = some c ∧ Q (.str ⟨#[c]⟩) H) ta tb) := by
  intro pins s σ H Q I h
  refine Subscript_ (binT ha hb I h fun v u s2 x y H2 I2 rx ry q => ?_)
  obtain ⟨z, i, c, rfl, rfl, h0, h63, h1, hc, q⟩ := q
  obtain ⟨t, rfl⟩ := rx
  obtain ⟨t', rfl⟩ := ry
  have e : seqIndex? i z.length = some i.toNat := PySem.StrLaws.seqIndex_nonneg h0 h1
  exact tail_any (typeIs_str s2 z t) slot_str_getitem.lookup (getItem_str (c := c) (by
    have e1 : decide (i < -(2 ^ 63 : Int)) = false := decide_eq_false (by omega)
    have e2 : decide (i ≥ 2 ^ 63) = false := decide_eq_false (by omega)
    rw [e1, e2] <;> rfl) (by rw [e]; exact hc) ⟨.str ⟨#[c]⟩, H2, I2.tok _, ⟨_, rfl⟩, q⟩) (hs _ _)
/-- b[i], 0 ≤ i < len -/
theorem pe_item_byt (ha : PE X a ta) (hb : PE X b tb) (hs : PlainIxT b) :
    PE X (.Subscript a b pos) (tOp (fun x y H Q => ∃ (z : List UInt8) (i : Int), x = .byt z.toArray ∧ y = .int i ∧ z.length ≤ sizeLine ∧ 0 ≤ i ∧ i < z.length ∧ Q (.int ((z.getD i.toNat 0).toNat : Nat)) H) ta tb) := by
  intro pins s σ H Q I h
  refine Subscript_ (binT ha hb I h fun v u s2 x y H2 I2 rx ry q => ?_)
  obtain ⟨z, i, rfl, rfl, hz, h0, h1, q⟩ := q
  obtain ⟨t, rfl⟩ := rx
  obtain ⟨t', rfl⟩ := ry
  have hl : sizeLine = 16777216 := sizeLine_eq
  exact tail_any (PySem.W.typeIs_bytes s2 z.toArray t) PySem.W.FB.slot_bytes_getitem.lookup (PySem.W.getItem_bytes (by omega) h0 h1 ⟨.int ((z.getD i.toNat 0).toNat : Nat), H2, I2.tok _, ⟨_, rfl⟩, q⟩) (hs _ _)

/-! ### scalar builtins, by CallR -/
theorem vals1 {x : V} {us : List Value} (r : Vals [x] us) : ∃ u, us = [u] ∧ RelV x u := by
  cases r with
  | cons r1 r2 => cases r2; exact ⟨_, rfl, r1⟩
theorem vals2 {x y : V} {us : List Value} (r : Vals [x, y] us) : ∃ u w', us = [u, w'] ∧ RelV x u ∧ RelV y w' := by
  cases r with
  | cons r1 r2 =>
    cases r2 with
    | cons r3 r4 => cases r4; exact ⟨_, _, rfl, r1, r3⟩
theorem call_abs : CallR X (.builtin "abs") (fun xs H Q => ∃ i, xs = [.int i] ∧ Q (.int (if i < 0 then -i else i)) H) := by
  intro pins s σ H xs us Q I r h
  obtain ⟨i, rfl, q⟩ := h
  obtain ⟨u, rfl, t, rfl⟩ := vals1 r
  exact call_abs_int fun u tk => ⟨.int (if i < 0 then -i else i), H, I.tok _, ⟨_, rfl⟩, q⟩
theorem call_max2 (hc : X.calm = true) : CallR X (.builtin "max") (fun xs H Q => ∃ i j, xs = [.int i, .int j] ∧ Q (.int (if j > i then j else i)) H) := by
  intro pins s σ H xs us Q I r h
  obtain ⟨i, j, rfl, q⟩ := h
  obtain ⟨u, w', rfl, ⟨t, rfl⟩, ⟨t', rfl⟩⟩ := vals2 r
  refine max_two_ints (I.ok.hd hc) fun h' tk k => ⟨_, H, I.kept k, ?_, q⟩
  by_cases hj : j > i
  · rw [if_pos hj, if_pos hj]; exact ⟨_, rfl⟩
  · rw [if_neg hj, if_neg hj]; exact ⟨_, rfl⟩
theorem call_min2 (hc : X.calm = true) : CallR X (.builtin "min") (fun xs H Q => ∃ i j, xs = [.int i, .int j] ∧ Q (.int (if j < i then j else i)) H) := by
  intro pins s σ H xs us Q I r h
  obtain ⟨i, j, rfl, q⟩ := h
  obtain ⟨u, w', rfl, ⟨t, rfl⟩, ⟨t', rfl⟩⟩ := vals2 r
  refine min_two_ints (I.ok.hd hc) fun h' tk k => ⟨_, H, I.kept k, ?_, q⟩
  by_cases hj : j < i
  · rw [if_pos hj, if_pos hj]; exact ⟨_, rfl⟩
  · rw [if_neg hj, if_neg hj]; exact ⟨_, rfl⟩
theorem call_int1 : CallR X (.type "int") (fun xs H Q => (∃ i, xs = [.int i] ∧ Q (.int i) H) ∨ ∃ k, xs = [.bl k] ∧ Q (.int (if k then 1 else 0)) H) := by
  intro pins s σ H xs us Q I r h
  rcases h with ⟨i, rfl, q⟩ | ⟨k, rfl, q⟩
  · obtain ⟨u, rfl, t, rfl⟩ := vals1 r
    exact call_int_int ⟨.int i, H, I, ⟨_, rfl⟩, q⟩
  · obtain ⟨u, rfl, r1⟩ := vals1 r
    cases r1
    exact call_int_bool ⟨.int (if k then 1 else 0), H, I.tok _, ⟨_, rfl⟩, q⟩
theorem call_bool1 : CallR X (.type "bool") (fun xs H Q => (∃ i, xs = [.int i] ∧ Q (.bl (i != 0)) H) ∨ ∃ k, xs = [.bl k] ∧ Q (.bl k) H) := by
  intro pins s σ H xs us Q I r h
  rcases h with ⟨i, rfl, q⟩ | ⟨k, rfl, q⟩
  · obtain ⟨u, rfl, t, rfl⟩ := vals1 r
    exact call_bool_int ⟨.bl (i != 0), H, I, rfl, q⟩
  · obtain ⟨u, rfl, r1⟩ := vals1 r
    cases r1
    exact call_bool_bool ⟨.bl k, H, I, rfl, q⟩
theorem call_str_int : CallR X (.type "str") (fun xs H Q => ∃ i, xs = [.int i] ∧ i.natAbs.log2 < 1920 ∧ Q (.str (toString i)) H) := by
  intro pins s σ H xs us Q I r h
  obtain ⟨i, rfl, hz, q⟩ := h
  obtain ⟨u, rfl, t, rfl⟩ := vals1 r
  exact PySem.P.str_of_int hz ⟨.str _, H, I.tok _, ⟨_, rfl⟩, q⟩
theorem call_ord : CallR X (.builtin "ord") (fun xs H Q => ∃ x, xs = [.str x] ∧ x.length = 1 ∧ Q (.int (x.cps.getD 0 0 : Nat)) H) := by
  intro pins s σ H xs us Q I r h
  obtain ⟨x, rfl, hz, q⟩ := h
  obtain ⟨u, rfl, t, rfl⟩ := vals1 r
  exact ord_of_one hz ⟨.int _, H, I.tok _, ⟨_, rfl⟩, q⟩
theorem call_chr : CallR X (.builtin "chr") (fun xs H Q => ∃ i, xs = [.int i] ∧ 0 ≤ i ∧ i ≤ 1114111 ∧ Q (.str ⟨#[i.toNat]⟩) H) := by
  intro pins s σ H xs us Q I r h
  obtain ⟨i, rfl, h0, h1, q⟩ := h
  obtain ⟨u, rfl, t, rfl⟩ := vals1 r
  exact chr_of_range h0 h1 ⟨.str _, H, I.tok _, ⟨_, rfl⟩, q⟩
/-- len of a str, a bytes, a list, a tuple -/
def LenV (K : PySem.W.Frag) (x : V) (H : Hp) (n : Nat) : Prop :=
  match x with
  | .str y => y.length ≤ sizeLine ∧ n = y.length
  | .byt y => y.size ≤ sizeLine ∧ n = y.size
  | .ref p => (∃ xs, SqL K H p xs ∧ n = xs.length) ∨ ∃ xs, SqT K H p xs ∧ n = xs.length
  | _ => False
theorem call_len : CallR X (.builtin "len") (fun xs H Q => ∃ x n, xs = [x] ∧ LenV X.K x H n ∧ Q (.int n) H) := by
  intro pins s σ H xs us Q I r h
  obtain ⟨x, n, rfl, e, q⟩ := h
  obtain ⟨u, rfl, rx⟩ := vals1 r
  have hl := line63
  have hs : sizeLine = 16777216 := sizeLine_eq
  cases x with
  | str y =>
    obtain ⟨t, rfl⟩ := rx
    obtain ⟨hy, e'⟩ : y.length ≤ sizeLine ∧ n = y.length := e
    subst e'
    exact len_str (by omega) ⟨.int _, H, I.tok _, ⟨_, rfl⟩, q⟩
  | byt y =>
    obtain ⟨t, rfl⟩ := rx
    obtain ⟨hy, e'⟩ : y.size ≤ sizeLine ∧ n = y.size := e
    subst e'
    exact PySem.W.len_bytes (by omega) ⟨.int _, H, I.tok _, ⟨_, rfl⟩, q⟩
  | ref p =>
    cases rx
    have e' : (∃ xs, SqL X.K H p xs ∧ n = xs.length) ∨ ∃ xs, SqT X.K H p xs ∧ n = xs.length := e
    rcases e' with ⟨xs, hx, e'⟩ | ⟨xs, hx, e'⟩
    · subst e'
      obtain ⟨its, r', pl, hz⟩ := I.list hx
      have hlen := r'.length
      exact Calls.call_len_list pl.isList (by simp only [List.size_toArray]; omega) ⟨.int xs.length, H, I.tok _, ⟨_, by simp only [List.size_toArray]; rw [hlen]⟩, q⟩
    · subst e'
      obtain ⟨its, r', pl, hz⟩ := I.tuple hx
      have hlen := r'.length
      exact len_tuple pl (by simp only [List.size_toArray]; omega) ⟨.int xs.length, H, I.tok _, ⟨_, by simp only [List.size_toArray]; rw [hlen]⟩, q⟩
  | _ => exact (show False from e).elim
/-- divmod: a new tuple -/
theorem call_divmod : CallR X (.builtin "divmod") (fun xs H Q => ∃ i j, xs = [.int i, .int j] ∧ CDiv i j ∧ ∀ p, H p = none → Q (.ref p) (upd H p (.tup [.int (i / j), .int (i % j)]))) := by
  intro pins s σ H xs us Q I r h
  obtain ⟨i, j, rfl, ⟨h1, h2⟩, q⟩ := h
  obtain ⟨u, w', rfl, ⟨t, rfl⟩, ⟨t', rfl⟩⟩ := vals2 r
  refine divmod_int (by omega) ?_ (.inl (PyProof.noPylong_small (by omega)))
  rw [Int.fdiv_eq_ediv_of_nonneg i (by omega), Int.fmod_eq_emod_of_nonneg i (by omega)]
  have hn : H s.heap.objs.size = none := I.hok.fresh (Nat.le_refl _)
  refine ⟨.ref s.heap.objs.size, _, ?_, rfl, q _ hn⟩
  refine I.laid (fun b o e => Heap.get?_push_of_some _ e) (Nat.le_refl _) ⟨by simp only [List.length_cons, List.length_nil]; rw [sizeLine_eq]; decide, [.int (i / j) s.toks, .int (i % j) (s.toks + 1)], .cons ⟨_, rfl⟩ (.cons ⟨_, rfl⟩ .nil), ?_⟩
  exact ⟨_, Heap.get?_push_size s.heap rfl, rfl, 0, rfl⟩
end
end L2

namespace L2
open PySem PySem.Spec PyProof.Rows

/-! ### an instance, its attributes a map -/
structure ObjM (h : Heap) (x dx C : Addr) (mA : Str → Option Value) : Prop where
  obj : h.get? x = some (PySem.W.instObj C dx)
  ns : h.Ns1 dx mA
  ne : dx ≠ x

theorem lookIn_ns {h : Heap} {dx : Addr} {mA : Str → Option Value} (n : h.Ns1 dx mA) : ∃ od, h.get? dx = some od ∧ ∀ name, PySem.W.lookIn name od = some (mA name) := by
  obtain ⟨o, es, ep, ho, hd, hk, _, hm⟩ := n
  refine ⟨o, ho, fun name => ?_⟩
  have e := hm name
  unfold nsFind findBy at e
  rw [← Array.find?_toList] at e
  unfold PySem.W.lookIn
  rw [hd]
  dsimp only
  split
  · rename_i y q
    rw [q] at e
    exact congrArg some e
  · rename_i q
    rw [q] at e
    have a : es.toList.any (·.refKey) = false := by
      rw [List.any_eq_false]
      intro y hy
      obtain ⟨z, t, hkey⟩ := hk y (Array.mem_toList_iff.mp hy)
      simp [DictEntry.refKey, hkey]
    have a' : ¬ es.toList.any (·.refKey) = true := by rw [a]; exact Bool.false_ne_true
    rw [if_neg a']
    exact congrArg some e

theorem ObjM.look {h : Heap} {x dx C : Addr} {mA : Str → Option Value} (I : ObjM h x dx C mA) : ∃ od, PySem.W.InstAt h x (PySem.W.instObj C dx) C (some od) ∧ ∀ name, PySem.W.lookIn name od = some (mA name) :=
  let ⟨od, ho, hl⟩ := lookIn_ns I.ns
  ⟨od, ⟨I.obj, rfl, rfl, ho⟩, hl⟩

section
variable {prog : Program} {w : World} {A : Around} {E : Value → Shared → Prop} {s : Shared} {K : PySem.W.Frag} {x dx C f : Addr} {mA : Str → Option Value} {name : Str} {v : Value}

theorem get_map {expr : Bool} {Q : Value → Shared → Prop} (X : K.In s.heap) (I : ObjM s.heap x dx C mA) (hg : PySem.W.plainGet K C name = true) (hh : PySem.W.hasDictIn K C = true)
    (ha : PySem.W.findIn K (.ref C) name = some none) (hv : mA name = some v) (hv' : PySem.W.handedIn v = true) (h : Q v { s with toks := s.toks + 1 }) :
    wpAny (model prog w) A (getAttr (.ref x) name expr) Q E s := by
  obtain ⟨od, J, hl⟩ := I.look
  exact PySem.W.get_value X J (PySem.W.plainGet_of hg).1 (PySem.W.findObj_own hh ha rfl (by rw [hl, hv])) hv' h

theorem get_const {expr : Bool} {a : Value} {Q : Value → Shared → Prop} (X : K.In s.heap) (I : ObjM s.heap x dx C mA) (hg : PySem.W.plainGet K C name = true) (hh : PySem.W.hasDictIn K C = true)
    (ha : PySem.W.findIn K (.ref C) name = some (some a)) (hn : PySem.W.specialIn K a "__get__" = some none) (hc : PySem.W.copiedNames.contains name = false) (hv : mA name = none) (hv' : PySem.W.handedIn a = true)
    (h : Q a { s with toks := s.toks + 1 }) : wpAny (model prog w) A (getAttr (.ref x) name expr) Q E s := by
  obtain ⟨od, J, hl⟩ := I.look
  exact PySem.W.get_value X J (PySem.W.plainGet_of hg).1 (PySem.W.findObj_cls hh ha hn hv' hc (by rw [hl, hv])) hv' h

theorem get_meth {pl : Sem Bool} {Q : Value × List Value → Shared → Prop} (X : K.In s.heap) (I : ObjM s.heap x dx C mA) (hg : PySem.W.plainGet K C name = true)
    (hf : PySem.W.findIn K (.ref C) name = some (some (.ref f))) (ht : PySem.W.isFn K (.ref f) = true) (hv : mA name = none) (h : Q (.ref f, [.ref x]) s) :
    wpAny (model prog w) A (getMethod (.ref x) name pl) Q E s := by
  obtain ⟨od, J, hl⟩ := I.look
  exact PySem.W.method_fn X J (PySem.W.plainGet_of hg).1 (PySem.W.plainGet_of hg).2 hf (beq_iff_eq.mp ht) (by show (PySem.W.lookIn name od).map (·.isSome) = some false; rw [hl, hv]; rfl) h

theorem set_map {ns : List Str} {Q : Unit → Shared → Prop} (X : K.In s.heap) (I : ObjM s.heap x dx C mA)
    (hs : PySem.W.findIn K (.ref C) "__setattr__" = some (some (.builtin "object.__setattr__"))) (hp : PySem.W.plainOver K C = true) (ht : PySem.W.takerIn K C name = some none) (hh : PySem.W.hasDictIn K C = true)
    (hw : PySem.Within mA ns) (hsz : ns.length ≤ sizeLine)
    (h : ∀ h', ObjM h' x dx C (fun y => if y = name then some v else mA y) → Heap.SameBut dx s.heap h' → Q () { s with heap := h', toks := s.toks + 2 }) :
    wpAny (model prog w) A (setAttr (.ref x) name v) Q E s := by
  obtain ⟨od, J, hl⟩ := I.look
  refine PySem.W.set_plain X J hs (PySem.W.osa_open (s := { s with toks := s.toks + 1 }) (r := none) X J hp ht fun b => ?_)
  obtain ⟨cd, hc, hd'⟩ := PySem.W.any_some hh
  have hx : s.heap.get? x = some ⟨.ref C, some dx, .plain, #[]⟩ := I.obj
  refine wpAny_bind (wpAny_pure (wpAny_bind (wpAny_bind (wpAny_loadPart hx (wpAny_bind (PySem.W.Looks.here (s := { s with toks := s.toks + 1 }) (PySem.W.looks_clsIn X hc) ?_))))))
  rw [hd']
  refine wpAny_pure (a := some dx) (wpAny_bind (wpAny_pure (wpAny_bind ?_)))
  refine wpAny_nsSet1 (s := { s with toks := s.toks + 1 }) I.ns fun h' hn2 hs2 => ?_
  obtain ⟨oD, esD, epD, hoD, hdD, hcD⟩ := hn2.count (PySem.Within.cons name v hw)
  refine wpAny_bind (wpAny_lookBehind hoD (by rw [hdD]; exact pastItsLine_dict (Nat.le_trans hcD (by rw [List.length_cons]; omega))) ?_)
  exact wpAny_pure (h _ ⟨(hs2.2 _ (Ne.symm I.ne)).trans I.obj, hn2, I.ne⟩ hs2)

/-- C(..): the dict at the heap's end, the instance behind it; then its __init__ -/
theorem make_map {R : Result → Shared → Prop} {vs : List Value} {kw : List (Str × Value)} (X : K.In s.heap) (hm : PySem.W.makesIn K C = true)
    (hi : PySem.W.findIn K (.ref C) "__init__" = some (some (.ref f))) (hf : PySem.W.typeIn K (.ref f) = some (.type "function"))
    (h : codeAny (model prog w) (A.under (.builtin "type.__call__" ⟨.ref C :: vs, kw⟩)) (.call (.ref f) ⟨.ref (s.heap.objs.size + 1) :: vs, kw⟩) (PySem.W.InitBack (s.heap.objs.size + 1) R)
      { s with heap := (s.heap.push PySem.W.emptyDict).push (PySem.W.instObj C s.heap.objs.size) }) :
    codeAny (model prog w) A (.call (.ref C) ⟨vs, kw⟩) R s := by
  obtain ⟨hh, g, d, t, os⟩ := s
  exact PySem.W.make_core (PySem.W.makes_of X hm) (PySem.W.looks_findIn X hi) (fun self => PySem.W.bind_fn X self hf) (.inl rfl) h
/-- C() where there is no __init__ but object's -/
theorem make_map0 {R : Result → Shared → Prop} (X : K.In s.heap) (hm : PySem.W.makesIn K C = true)
    (hi : PySem.W.findIn K (.ref C) "__init__" = some (some (.builtin "object.__init__")))
    (hb : ∀ self, PySem.W.Looks (model prog w) s.heap (bindSpecial (.builtin "object.__init__") self) (.builtin "object.__init__", [self]))
    (h : codeAny (model prog w) (A.under (.builtin "type.__call__" ⟨[.ref C], []⟩)) (.call (.builtin "object.__init__") ⟨[.ref (s.heap.objs.size + 1)], []⟩) (PySem.W.InitBack (s.heap.objs.size + 1) R)
      { s with heap := (s.heap.push PySem.W.emptyDict).push (PySem.W.instObj C s.heap.objs.size) }) :
    codeAny (model prog w) A (.call (.ref C) ⟨[], []⟩) R s := by
  obtain ⟨hh, g, d, t, os⟩ := s
  exact PySem.W.make_core (PySem.W.makes_of X hm) (PySem.W.looks_findIn X hi) hb (.inr ⟨rfl, rfl⟩) h
end

/-! ### the attributes as a list of pairs -/
def putF (f : Str) (v : V) : List (Str × V) → List (Str × V)
  | [] => [(f, v)]
  | (g, x) :: r => if g = f then (g, v) :: r else (g, x) :: putF f v r
theorem lookup_putF (f g : Str) (v : V) : ∀ fs : List (Str × V), (putF f v fs).lookup g = if g = f then some v else fs.lookup g
  | [] => by
    show List.lookup g [(f, v)] = _
    by_cases h : g = f
    · have hb : (g == f) = true := beq_iff_eq.mpr h
      simp only [List.lookup, hb, if_pos h]
    · have hb : (g == f) = false := beq_eq_false_iff_ne.mpr h
      simp only [List.lookup, hb, if_neg h]
  | (k, x) :: r => by
    have ih := lookup_putF f g v r
    rw [show putF f v ((k, x) :: r) = (if k = f then (k, v) :: r else (k, x) :: putF f v r) from rfl]
    by_cases hk : k = f
    · rw [if_pos hk]
      by_cases h : g = k
      · have hb : (g == k) = true := beq_iff_eq.mpr h
        simp only [List.lookup, hb, if_pos (h.trans hk)]
      · have hb : (g == k) = false := beq_eq_false_iff_ne.mpr h
        simp only [List.lookup, hb, if_neg (fun e : g = f => h (e.trans hk.symm))]
    · rw [if_neg hk]
      by_cases h : g = k
      · have hb : (g == k) = true := beq_iff_eq.mpr h
        simp only [List.lookup, hb, if_neg (fun e : g = f => hk (h.symm.trans e))]
      · have hb : (g == k) = false := beq_eq_false_iff_ne.mpr h
        simp only [List.lookup, hb]
        exact ih
theorem keys_putF (f : Str) (v : V) : ∀ fs : List (Str × V), f ∈ (putF f v fs).map (·.1) ∧ ∀ g, g ∈ fs.map (·.1) → g ∈ (putF f v fs).map (·.1)
  | [] => ⟨by simp [putF], fun g h => by simp at h⟩
  | (k, x) :: r => by
    obtain ⟨i1, i2⟩ := keys_putF f v r
    rw [show putF f v ((k, x) :: r) = (if k = f then (k, v) :: r else (k, x) :: putF f v r) from rfl]
    by_cases hk : k = f
    · rw [if_pos hk]
      subst hk
      exact ⟨by simp, fun g h => by simpa using h⟩
    · rw [if_neg hk]
      refine ⟨?_, fun g h => ?_⟩
      · rw [List.map_cons]
        exact List.mem_cons_of_mem _ i1
      · rw [List.map_cons] at h ⊢
        rcases List.mem_cons.mp h with e | e
        · exact List.mem_cons.mpr (.inl e)
        · exact List.mem_cons_of_mem _ (i2 g e)
theorem length_putF (f : Str) (v : V) : ∀ fs : List (Str × V), (putF f v fs).length ≤ fs.length + 1
  | [] => by simp [putF]
  | (k, x) :: r => by
    have ih := length_putF f v r
    rw [show putF f v ((k, x) :: r) = (if k = f then (k, v) :: r else (k, x) :: putF f v r) from rfl]
    by_cases hk : k = f
    · rw [if_pos hk, List.length_cons, List.length_cons]; omega
    · rw [if_neg hk, List.length_cons, List.length_cons]; omega

theorem RelO.some_of {v : V} {o : Option Value} (r : RelO (some v) o) : ∃ u, o = some u ∧ RelV v u := by
  cases o with
  | none => exact (show False from r).elim
  | some u => exact ⟨u, rfl, r⟩
theorem RelO.none_of {o : Option Value} (r : RelO none o) : o = none := by
  cases o with
  | none => rfl
  | some u => exact (show False from r).elim
theorem handed_of {v : V} {u : Value} (r : RelV v u) : PySem.W.handedIn u = true := by
  cases v with
  | non => cases (show u = Value.none from r); rfl
  | bl b => cases (show u = Value.bool b from r); rfl
  | int i => obtain ⟨t, e⟩ := (show ∃ t, u = Value.int i t from r); cases e; rfl
  | str x => obtain ⟨t, e⟩ := (show ∃ t, u = Value.str x t from r); cases e; rfl
  | byt b => obtain ⟨t, e⟩ := (show ∃ t, u = Value.bytes b t from r); cases e; rfl
  | flt b => obtain ⟨t, e⟩ := (show ∃ t, u = Value.float b t from r); cases e; rfl
  | ref a => cases (show u = Value.ref a from r); rfl
  | ty n => cases (show u = Value.type n from r); rfl

section
variable {P : Program} {w : World} {H H' : Hp} {h h' : Heap} {a C dx : Addr} {fs fs' : List (Str × V)}
theorem ins_get (hok : HOk P w H h) (e : H a = some (.ins C dx fs)) : ∃ mA, ObjM h a dx C mA ∧ (∀ f, RelO (fs.lookup f) (mA f)) ∧ PySem.Within mA (fs.map (·.1)) ∧ fs.length ≤ 1000 ∧ H dx = some (.own a) := by
  obtain ⟨d, z, ne, ob, mA, n, r, q⟩ := (show ObjOk P w H h a (.ins C dx fs) from hok a _ e)
  exact ⟨mA, ⟨ob, n, ne⟩, r, q, z, d⟩
end

/-! ### what of the text a class must have -/
structure Cls (K : PySem.W.Frag) (C : Addr) : Prop where
  pg : PySem.W.plainGet K C Str.empty = true
  hd : PySem.W.hasDictIn K C = true
  po : PySem.W.plainOver K C = true
  sa : PySem.W.findIn K (.ref C) "__setattr__" = some (some (.builtin "object.__setattr__"))
theorem Cls.get {K : PySem.W.Frag} {C : Addr} (c : Cls K C) (f : Str) : PySem.W.plainGet K C f = true := c.pg
/-- no class of it has the name -/
def NoAttr (K : PySem.W.Frag) (C : Addr) (f : Str) : Prop := PySem.W.findIn K (.ref C) f = some none
theorem NoAttr.taker {K : PySem.W.Frag} {C : Addr} {f : Str} (n : NoAttr K C f) : PySem.W.takerIn K C f = some none := by
  unfold PySem.W.takerIn
  rw [show PySem.W.findIn K (.ref C) f = some none from n]
  rfl
/-- a constant of the class -/
structure Con (K : PySem.W.Frag) (C : Addr) (f : Str) (v : V) (u : Value) : Prop where
  at_ : PySem.W.findIn K (.ref C) f = some (some u)
  rel : RelV v u
  get : PySem.W.specialIn K u "__get__" = some none
  cp : PySem.W.copiedNames.contains f = false
/-- a method: a plain def of the class or of one above it -/
structure Meth (K : PySem.W.Frag) (C : Addr) (m : Str) (f : Addr) : Prop where
  at_ : PySem.W.findIn K (.ref C) m = some (some (.ref f))
  fn : PySem.W.isFn K (.ref f) = true
  kp : PySem.W.keepIn K (.ref f) = true

section
variable {X : Cx} {pins : List (Addr × Obj)} {σ : St} {H : Hp} {s : Shared} {a C dx : Addr} {fs : List (Str × V)} {f : Str} {v : V} {A : Around} {E : Value → Shared → Prop}

theorem getattr_ok {b : Bool} {Q : Value → Shared → Prop} (I : Inv X pins σ H s) (e : H a = some (.ins C dx fs)) (c : Cls X.K C) (n : NoAttr X.K C f) (l : fs.lookup f = some v)
    (h : ∀ u s', Inv X pins σ H s' → RelV v u → Q u s') : wpAny (model X.prog X.w) A (getAttr (.ref a) f b) Q E s := by
  obtain ⟨mA, O, r, _, _, _⟩ := ins_get I.hok e
  obtain ⟨u, hu, ru⟩ := RelO.some_of (v := v) (o := mA f) (by rw [← l]; exact r f)
  exact get_map I.kIn O (c.get f) c.hd n hu (handed_of ru) (h u _ (I.tok _) ru)

theorem getcon_ok {b : Bool} {u : Value} {Q : Value → Shared → Prop} (I : Inv X pins σ H s) (e : H a = some (.ins C dx fs)) (c : Cls X.K C) (k : Con X.K C f v u) (l : fs.lookup f = none)
    (h : ∀ s', Inv X pins σ H s' → Q u s') : wpAny (model X.prog X.w) A (getAttr (.ref a) f b) Q E s := by
  obtain ⟨mA, O, r, _, _, _⟩ := ins_get I.hok e
  have hn : mA f = none := RelO.none_of (by rw [← l]; exact r f)
  exact get_const I.kIn O (c.get f) c.hd k.at_ k.get k.cp hn (handed_of k.rel) (h _ (I.tok _))

theorem getmeth_ok {m : Str} {g : Addr} {pl : Sem Bool} {Q : Value × List Value → Shared → Prop} (I : Inv X pins σ H s) (e : H a = some (.ins C dx fs)) (c : Cls X.K C) (k : Meth X.K C m g) (l : fs.lookup m = none)
    (h : Q (.ref g, [.ref a]) s) : wpAny (model X.prog X.w) A (getMethod (.ref a) m pl) Q E s := by
  obtain ⟨mA, O, r, _, _, _⟩ := ins_get I.hok e
  have hn : mA m = none := RelO.none_of (by rw [← l]; exact r m)
  exact get_meth I.kIn O (c.get m) k.at_ k.fn hn h

theorem setattr_ok {y : V} {u : Value} {Q : Unit → Shared → Prop} (I : Inv X pins σ H s) (e : H a = some (.ins C dx fs)) (c : Cls X.K C) (n : NoAttr X.K C f) (hl : fs.length < 1000) (ry : RelV y u)
    (h : ∀ s', Inv X pins σ (upd H a (.ins C dx (putF f y fs))) s' → Q () s') : wpAny (model X.prog X.w) A (setAttr (.ref a) f u) Q E s := by
  obtain ⟨mA, O, r, wi, _, ho⟩ := ins_get I.hok e
  have hz : (fs.map (·.1)).length ≤ sizeLine := by rw [List.length_map, sizeLine_eq]; omega
  refine set_map I.kIn O c.sa c.po n.taker c.hd wi hz fun h' O' sb => h _ ?_
  have hd : ∃ o, h'.get? dx = some o := let ⟨o, _, _, e', _⟩ := O'.ns; ⟨o, e'⟩
  refine I.write (x := a) (e := dx) (by rw [e]; exact True.intro) (.inr ho) (fun b q hb z => (sb.2 b hb).trans z) hd ?_
  refine ⟨by rw [upd_ne O.ne]; exact ho, ?_, O.ne, O'.obj, _, O'.ns, fun g => ?_, fun g hg => ?_⟩
  · have := length_putF f y fs; omega
  · show RelO ((putF f y fs).lookup g) (if g = f then some u else mA g)
    rw [lookup_putF]
    by_cases q : g = f
    · rw [if_pos q, if_pos q]; exact ry
    · rw [if_neg q, if_neg q]; exact r g
  · by_cases q : g = f
    · rw [q]; exact (keys_putF f y fs).1
    · refine (keys_putF f y fs).2 g (wi g fun z => hg ?_)
      show (if g = f then some u else mA g) = none
      rw [if_neg q]; exact z

/-- a new instance, tracked, without attributes -/
theorem Inv.made (I : Inv X pins σ H s) : Inv X pins σ (upd (upd H s.heap.objs.size (.own (s.heap.objs.size + 1))) (s.heap.objs.size + 1) (.ins C s.heap.objs.size []))
    { s with heap := (s.heap.push PySem.W.emptyDict).push (PySem.W.instObj C s.heap.objs.size) } := by
  have e1 : (s.heap.push PySem.W.emptyDict).get? s.heap.objs.size = some PySem.W.emptyDict := Heap.get?_push_size s.heap rfl
  have e2 : ((s.heap.push PySem.W.emptyDict).push (PySem.W.instObj C s.heap.objs.size)).get? (s.heap.objs.size + 1) = some (PySem.W.instObj C s.heap.objs.size) := by
    have := Heap.get?_push_size (s.heap.push PySem.W.emptyDict) (o := PySem.W.instObj C s.heap.objs.size) rfl
    rwa [Heap.size_push] at this
  have e3 : (s.heap.push PySem.W.emptyDict).Ns s.heap.objs.size (fun _ => none) := ⟨PySem.W.emptyDict, #[], _, e1, rfl, (fun e he => absurd he (by simp)), fun _ => rfl⟩
  have I1 := I.laid (a := s.heap.objs.size) (o := .own (s.heap.objs.size + 1)) (h' := s.heap.push PySem.W.emptyDict) (t' := s.toks) (fun b u q => Heap.get?_push_of_some _ q) (Nat.le_refl _) ⟨_, e1⟩
  refine I1.laid (a := s.heap.objs.size + 1) (o := .ins C s.heap.objs.size []) (t' := s.toks) (fun b u q => Heap.get?_push_of_some _ q) (Nat.le_of_eq (Heap.size_push _ _)) ?_
  have ne : s.heap.objs.size ≠ s.heap.objs.size + 1 := Nat.ne_of_lt (Nat.lt_succ_self _)
  refine ⟨by rw [upd_ne ne, upd_same], Nat.zero_le _, ne, e2, fun _ => none, (Heap.Ns1.of_empty e3).at fun o q => Heap.get?_push_of_some _ q, fun _ => True.intro, fun y hy => absurd rfl hy⟩

/-- e.f where nothing but the object is asked: through attributeBase (super) and the last hold -/
theorem attr_of {prog : Program} {w : World} {env : Env} {e : Expr} {f : Str} {pos : Pos} {s : Shared} {Q : Value → Shared → Prop} (hb : attributeBase e f env (eval e env) = eval e env)
    (h : wpAny (model prog w) A (eval e env) (fun o s₁ => wpAny (model prog w) A (getAttr o f true) Q E s₁) E s) : wpAny (model prog w) A (eval (.Attribute e f pos) env) Q E s :=
  Attribute_any_ h (by rw [arm_eval_Attribute, hb])
end

/-! ### readings and rules -/
/-- e.f, an attribute of the instance -/
def tFld (K : PySem.W.Frag) (ta : TE) (f : Str) : TE := fun σ H Q => ta σ H fun x H1 => ∃ a C dx fs v, x = .ref a ∧ H1 a = some (.ins C dx fs) ∧ Cls K C ∧ NoAttr K C f ∧ fs.lookup f = some v ∧ Q v H1
/-- e.f, a constant of the class -/
def tCon (K : PySem.W.Frag) (ta : TE) (f : Str) : TE := fun σ H Q => ta σ H fun x H1 => ∃ a C dx fs v u, x = .ref a ∧ H1 a = some (.ins C dx fs) ∧ Cls K C ∧ Con K C f v u ∧ fs.lookup f = none ∧ Q v H1
/-- e.f = value -/
def sFld (K : PySem.W.Frag) (ta tv : TE) (f : Str) : TS := fun D σ H => tv σ H fun y H1 => ta σ H1 fun x H2 => ∃ a C dx fs, x = .ref a ∧ H2 a = some (.ins C dx fs) ∧ Cls K C ∧ NoAttr K C f ∧ fs.length < 1000 ∧
  D.nx σ (upd H2 a (.ins C dx (putF f y fs)))
/-- an augmented operator on two values -/
def InOp (X : Cx) (op : Operator) (rd : V → V → Hp → VK → Prop) : Prop :=
  ∀ (pins : List (Addr × Obj)) (s : Shared) (σ : St) (H : Hp) (x y : V) (u v : Value) (Q : VK), Inv X pins σ H s → RelV x u → RelV y v → rd x y H Q → wpAny (model X.prog X.w) X.A (inplaceOp op u v) (EP X pins σ Q) X.xe s
/-- e.f op= value -/
def sFldAug (K : PySem.W.Frag) (ta tv : TE) (rd : V → V → Hp → VK → Prop) (f : Str) : TS := fun D σ H => ta σ H fun x H1 => ∃ a C dx fs v, x = .ref a ∧ H1 a = some (.ins C dx fs) ∧ Cls K C ∧ NoAttr K C f ∧ fs.lookup f = some v ∧
  tv σ H1 fun y H2 => rd v y H2 fun z H3 => ∃ dx' fs', H3 a = some (.ins C dx' fs') ∧ fs'.length < 1000 ∧ D.nx σ (upd H3 a (.ins C dx' (putF f z fs')))

section
variable {X : Cx} {o e value : Expr} {f : Str} {pos pos' tpos : Pos} {ta tv : TE}
theorem pe_fld (he : PE X e ta) (hb : attributeBase e f X.env (eval e X.env) = eval e X.env) : PE X (.Attribute e f pos) (tFld X.K ta f) := by
  intro pins s σ H Q I h
  refine attr_of hb (thn (he pins s σ H _ I h) fun u s1 ⟨x, H1, I1, rx, a, C, dx, fs, v, ex, ea, c, n, l, q⟩ => ?_)
  subst ex
  obtain rfl : u = Value.ref a := rx
  exact getattr_ok I1 ea c n l fun u' s2 I2 ru => ⟨v, H1, I2, ru, q⟩
theorem pe_con (he : PE X e ta) (hb : attributeBase e f X.env (eval e X.env) = eval e X.env) : PE X (.Attribute e f pos) (tCon X.K ta f) := by
  intro pins s σ H Q I h
  refine attr_of hb (thn (he pins s σ H _ I h) fun u s1 ⟨x, H1, I1, rx, a, C, dx, fs, v, u0, ex, ea, c, k, l, q⟩ => ?_)
  subst ex
  obtain rfl : u = Value.ref a := rx
  exact getcon_ok I1 ea c k l fun s2 I2 => ⟨v, H1, I2, k.rel, q⟩
theorem ps_fld (ha : PE X o ta) (hv : PE X value tv) (hs : swapsWith value (some (.Attribute o f pos')) pos.line X.env = pure false) : PS X (.Assign [.Attribute o f pos'] value pos) (sFld X.K ta tv f) := by
  intro pins s σ H D I h
  refine plainObj_wpAny_Assign_Attribute (thn (hv pins s σ H _ I h) fun u s1 ⟨y, H1, I1, ry, q⟩ => thn (ha pins s1 σ H1 _ I1 q) fun ov s2 ⟨x, H2, I2, rx, a, C, dx, fs, ex, ea, c, n, l, q2⟩ => ?_) hs
  subst ex
  obtain rfl : ov = Value.ref a := rx
  exact setattr_ok I2 ea c n l ry fun s3 I3 => ⟨σ, _, I3, q2⟩
theorem ps_fldaug {op : Operator} {rd : V → V → Hp → VK → Prop} (ha : PE X o ta) (hv : PE X value tv) (hop : InOp X op rd) : PS X (.AugAssign (.Attribute o f tpos) op value pos) (sFldAug X.K ta tv rd f) := by
  intro pins s σ H D I h
  refine wpAny_AugAssign_AttributeAny (thn (ha pins s σ H _ I h) fun ov s1 ⟨x, H1, I1, rx, a, C, dx, fs, v, ex, ea, c, n, l, q⟩ => ?_)
  subst ex
  obtain rfl : ov = Value.ref a := rx
  refine getattr_ok I1 ea c n l fun u s2 I2 ru => thn (hv pins s2 σ H1 _ I2 q) fun w3 s3 ⟨y, H2, I3, ry, q3⟩ => thn (hop pins s3 σ H2 v y u w3 _ I3 ru ry q3) fun w4 s4 ⟨z, H3, I4, rz, dx', fs', ea', l', q4⟩ => ?_
  exact setattr_ok I4 ea' c n l' rz fun s5 I5 => ⟨σ, _, I5, q4⟩
def rAdd : V → V → Hp → VK → Prop := fun x y H Q => ∃ i j, x = .int i ∧ y = .int j ∧ Q (.int (i + j)) H
def rSub : V → V → Hp → VK → Prop := fun x y H Q => ∃ i j, x = .int i ∧ y = .int j ∧ Q (.int (i - j)) H
theorem in_add : InOp X .Add rAdd := by
  rintro pins s σ H x y u v Q I rx ry ⟨i, j, rfl, rfl, q⟩
  obtain ⟨t, rfl⟩ := (show ∃ t, u = Value.int i t from rx)
  obtain ⟨t', rfl⟩ := (show ∃ t', v = Value.int j t' from ry)
  exact PyProof.Rows.iadd_int ⟨.int (i + j), H, I.tok _, ⟨_, rfl⟩, q⟩
theorem in_sub : InOp X .Sub rSub := by
  rintro pins s σ H x y u v Q I rx ry ⟨i, j, rfl, rfl, q⟩
  obtain ⟨t, rfl⟩ := (show ∃ t, u = Value.int i t from rx)
  obtain ⟨t', rfl⟩ := (show ∃ t', v = Value.int j t' from ry)
  exact PyProof.Rows.isub_int ⟨.int (i - j), H, I.tok _, ⟨_, rfl⟩, q⟩

/-- what is between an instance and its method: the tree of a method call -/
theorem methcall_of {pl : Sem Bool} {m : Str} {apos : Pos} {args : List Expr} {pins : List (Addr × Obj)} {s : Shared} {σ : St} {H : Hp} {Q : Value → Shared → Prop} {te : TE} (he : PE X e te) (I : Inv X pins σ H s)
    (h : te σ H fun x H1 => ∃ a C dx fs g, x = .ref a ∧ H1 a = some (.ins C dx fs) ∧ Cls X.K C ∧ Meth X.K C m g ∧ fs.lookup m = none ∧
      ∀ s1, Inv X pins σ H1 s1 → wpAny (model X.prog X.w) X.A (callWith pos (.ref g) [.ref a] (backTo pos (starEach args X.env)) (backToKw pos (keywordEach [] X.env))) Q X.xe s1)
    (ht : eval (.Call (.Attribute e m apos) args [] pos) X.env = (do
      let ov ← eval e X.env
      standAt apos.atName
      let (f, first) ← holding [ov] (getMethod ov m pl)
      callWith pos f first (backTo pos (starEach args X.env)) (backToKw pos (keywordEach [] X.env)))) :
    wpAny (model X.prog X.w) X.A (eval (.Call (.Attribute e m apos) args [] pos) X.env) Q X.xe s := by
  refine PySem.W.methodCall_KW (pl := pl) (thn (he pins s σ H _ I h) fun u s1 ⟨x, H1, I1, rx, a, C, dx, fs, g, ex, ea, c, k, l, q⟩ => ?_) ht
  subst ex
  obtain rfl : u = Value.ref a := rx
  exact getmeth_ok I1 ea c k l (q s1 I1)
end

/-! ### isinstance -/
section
variable {X : Cx} {pins : List (Addr × Obj)} {σ : St} {H : Hp} {s : Shared} {A : Around} {E : Value → Shared → Prop} {Q : Value → Shared → Prop} {c : Value} {b : Bool}
/-- the type of a value, as the fragment's deciders take it; for an instance its class -/
inductive TyOf (K : PySem.W.Frag) (H : Hp) : V → Value → Prop where
  | non : TyOf K H .non (.type "NoneType")
  | bl (x : Bool) : TyOf K H (.bl x) (.type "bool")
  | int (i : Int) : TyOf K H (.int i) (.type "int")
  | str (x : Str) : TyOf K H (.str x) (.type "str")
  | flt (x : UInt64) : TyOf K H (.flt x) (.type "float")
  | lst {a : Addr} {xs : List V} (e : H a = some (.lst xs)) : TyOf K H (.ref a) (.type "list")
  | frz {a : Addr} {o : Obj} {xs : List V} (e : H a = some (.frz o (.lst xs))) : TyOf K H (.ref a) (.type "list")
  | tup {a : Addr} {xs : List V} (e : H a = some (.tup xs)) : TyOf K H (.ref a) (.type "tuple")
  | dK {a : Addr} {kvs : List (Key × V)} (e : H a = some (.dK kvs)) : TyOf K H (.ref a) (.type "dict")
  | dT {a : Addr} {kvs : List (List Key × V)} (e : H a = some (.dT kvs)) : TyOf K H (.ref a) (.type "dict")
  | ins {a C dx : Addr} {fs : List (Str × V)} (e : H a = some (.ins C dx fs)) (cl : Cls K C) (ha : PySem.W.findIn K (.ref C) "__class__" = some (some (.builtin "object.__class__")))
      (hn : PySem.W.specialIn K (.builtin "object.__class__") "__get__" = some (some (.builtin "getset_descriptor.__get__"))) (htk : PySem.W.takesIn K (.builtin "object.__class__") = some true)
      (hm : PySem.W.mroIn K C (.type "object") = some true) : TyOf K H (.ref a) (.ref C)
/-- isinstance(x, c) for one class c, a built-in or an own one: kitOne's answer -/
theorem isinst_ok {x : V} {u t : Value} (I : Inv X pins σ H s) (rx : RelV x u) (ty : TyOf X.K H x t) (e : PySem.W.kitOne X.K t c = some b) (h : ∀ tk, Q (.bool b) { s with toks := tk }) :
    wpAny (model X.prog X.w) A (call (.builtin "isinstance") [u, c]) Q E s := by
  cases ty with
  | non => cases (show u = Value.none from rx); exact PySem.W.kia_one PySem.W.kitx_none I.kIn True.intro e (fun z => nomatch z) h
  | bl y => cases (show u = Value.bool y from rx); exact PySem.W.kia_one PySem.W.kitx_bool I.kIn True.intro e (fun z => nomatch z) h
  | int i => obtain ⟨t, q⟩ := (show ∃ t, u = Value.int i t from rx); cases q; exact PySem.W.kia_one PySem.W.kitx_int I.kIn True.intro e (fun z => nomatch z) h
  | str y => obtain ⟨t, q⟩ := (show ∃ t, u = Value.str y t from rx); cases q; exact PySem.W.kia_one PySem.W.kitx_str I.kIn True.intro e (fun z => nomatch z) h
  | flt y => obtain ⟨t, q⟩ := (show ∃ t, u = Value.float y t from rx); cases q; exact PySem.W.kia_one PySem.W.kitx_float I.kIn True.intro e (fun z => nomatch z) h
  | @lst a xs ea =>
    cases (show u = Value.ref a from rx)
    obtain ⟨_, _, n, _, h1⟩ := (show ObjOk X.prog X.w H s.heap a (.lst xs) from I.hok a _ ea)
    exact PySem.W.kia_one PySem.W.kitx_list I.kIn ⟨_, h1, rfl⟩ e (fun z => nomatch z) h
  | @frz a ob xs ea =>
    cases (show u = Value.ref a from rx)
    obtain ⟨_, _, _, n, _, h1⟩ := (show ObjOk X.prog X.w H s.heap a (.frz ob (.lst xs)) from I.hok a _ ea)
    exact PySem.W.kia_one PySem.W.kitx_list I.kIn ⟨_, h1, rfl⟩ e (fun z => nomatch z) h
  | @tup a xs ea =>
    cases (show u = Value.ref a from rx)
    obtain ⟨_, _, _, p⟩ := (show ObjOk X.prog X.w H s.heap a (.tup xs) from I.hok a _ ea)
    obtain ⟨o, h1, h2, _⟩ := p
    exact PySem.W.kia_one PySem.W.kitx_tuple I.kIn ⟨o, h1, h2⟩ e (fun z => nomatch z) h
  | @dK a kvs ea =>
    cases (show u = Value.ref a from rx)
    obtain ⟨_, _, vs, _, p⟩ := (show ObjOk X.prog X.w H s.heap a (.dK kvs) from I.hok a _ ea)
    obtain ⟨o, es, ep, h1, h2, _⟩ := p
    exact PySem.W.kia_one PySem.W.kitx_dict I.kIn ⟨o, h1, h2.1⟩ e (fun z => nomatch z) h
  | @dT a kvs ea =>
    cases (show u = Value.ref a from rx)
    obtain ⟨_, _, xs, _, o, es, ep, h1, h2, _⟩ := (show ObjOk X.prog X.w H s.heap a (.dT kvs) from I.hok a _ ea)
    exact PySem.W.kia_one PySem.W.kitx_dict I.kIn ⟨o, h1, h2.1⟩ e (fun z => nomatch z) h
  | @ins a C dx fs ea cl ha hn htk hm =>
    cases (show u = Value.ref a from rx)
    obtain ⟨mA, O, _⟩ := ins_get I.hok ea
    obtain ⟨od, J, _⟩ := O.look
    exact PySem.W.kia_one (PySem.W.kitx_own (cl.get _) cl.hd ha hn htk hm) I.kIn J e (fun z => nomatch z) h
end
end L2

namespace L2
open PySem PySem.Spec PyProof.Rows

/-! ### room -/
structure Room (k : Nat) (A : Around) : Prop where
  hd : A.handled = none
  dp : A.depth + 3 * k + 5 < recursionLimit
  un : A.units + 16 * k + 200 < cLine
theorem Room.mono {j k : Nat} {A : Around} (r : Room k A) (h : j ≤ k) : Room j A := ⟨r.hd, by have := r.dp; omega, by have := r.un; omega⟩
theorem Room.deeper {k : Nat} {A : Around} (r : Room (k + 1) A) (env : Env) : Room k (A.deeper env) :=
  ⟨r.hd, by have := r.dp; show A.depth + 1 + 3 * k + 5 < _; omega, by have := r.un; show A.units + 3 + 16 * k + 200 < _; omega⟩
theorem Room.in1 {k : Nat} {A : Around} (r : Room (k + 1) A) : Room k A.in1 :=
  ⟨r.hd, by have := r.dp; show A.depth + 3 * k + 5 < _; omega, by have := r.un; show A.units + 1 + 16 * k + 200 < _; omega⟩
theorem make_depth {A : Around} {C : Addr} {us : List Value} {kw : List (Str × Value)} : (A.under (.builtin "type.__call__" ⟨.ref C :: us, kw⟩)).depth = A.depth + 1 := by
  first | rfl | simp [Around.under, Code.weight, Code.isCreation, Code.isGuard, Code.isCaller, Code.frames, Code.isFrame, guardIds]
theorem make_units {A : Around} {C : Addr} {us : List Value} {kw : List (Str × Value)} : (A.under (.builtin "type.__call__" ⟨.ref C :: us, kw⟩)).units = A.units + 1 := by
  first | rfl | simp [Around.under, Code.cUnits, Code.frames, Code.isFrame]
theorem Room.make {k : Nat} {A : Around} (r : Room (k + 1) A) (C : Addr) (us : List Value) (kw : List (Str × Value)) : Room k (A.under (.builtin "type.__call__" ⟨.ref C :: us, kw⟩)) :=
  ⟨r.hd, by have := r.dp; rw [make_depth]; omega, by have := r.un; rw [make_units]; omega⟩
theorem Room.depth {k : Nat} {A : Around} (r : Room k A) : A.depth < recursionLimit := by have := r.dp; omega
theorem Room.units {k : Nat} {A : Around} (r : Room k A) : A.units + 64 < cLine := by have := r.un; omega
theorem Room.units0 {k : Nat} {A : Around} (r : Room k A) : A.units < cLine := by have := r.un; omega

/-! ### argument lists and displays -/
def tNil : TA := fun _ H Q => Q [] H
def tCons (ta : TE) (tr : TA) : TA := fun σ H Q => ta σ H fun x H1 => tr σ H1 fun xs H2 => Q (x :: xs) H2
section
variable {X : Cx} {e : Expr} {es : List Expr} {te : TE} {t : TA} {pos : Pos}
theorem pa_nil : PA X [] tNil := fun _ _ _ _ H Q I h => Calls.spliced_nil ⟨[], H, I, .nil, h⟩
theorem pa_cons (ha : PE X e te) (hr : PA X es t) (hs : starEach (e :: es) X.env = (false, eval e X.env) :: starEach es X.env := by rfl) : PA X (e :: es) (tCons te t) := by
  intro pos pins s σ H Q I h
  rw [hs]
  show wpAny _ _ (spliced ((false, eval e X.env) :: backTo pos (starEach es X.env))) _ _ s
  refine Calls.spliced_cons (thn (ha pins s σ H _ I h) fun u s1 ⟨x, H1, I1, r1, q1⟩ => ?_)
  exact thn (hr pos pins s1 σ H1 _ I1 q1) fun us s2 ⟨xs, H2, I2, r2, q2⟩ => ⟨x :: xs, H2, I2, .cons r1 r2, q2⟩

/-- a tuple, a list of written items -/
def tTup (t : TA) : TE := fun σ H Q => t σ H fun xs H1 => xs.length ≤ sizeLine ∧ ∀ p, H1 p = none → Q (.ref p) (upd H1 p (.tup xs))
def tLst (t : TA) : TE := fun σ H Q => t σ H fun xs H1 => xs.length ≤ sizeLine ∧ ∀ p, H1 p = none → Q (.ref p) (upd H1 p (.lst xs))
theorem pe_tup {x1} (h : PA X es t) : PE X (.Tuple es x1 pos) (tTup t) := by
  intro pins s σ H Q I hq
  refine wpAny_Tuple_spliced (thn (h pos pins s σ H _ I hq) fun us s1 ⟨xs, H1, I1, r, z, q⟩ => ⟨by rw [← r.length]; exact z, ?_⟩)
  have hf : H1 s1.heap.objs.size = none := I1.hok.fresh (Nat.le_refl _)
  refine ⟨.ref s1.heap.objs.size, upd H1 s1.heap.objs.size (.tup xs), I1.laid (t' := s1.toks) (fun b u e => Heap.get?_push_of_some _ e) (Nat.le_refl _) ?_, rfl, q _ hf⟩
  exact ⟨z, us, r, ⟨_, Heap.get?_push_size _ rfl, rfl, _, rfl⟩⟩
theorem pe_lst (h : PA X es t) : PE X (.List es pos) (tLst t) := by
  intro pins s σ H Q I hq
  refine wpAny_List_spliced (thn (h pos pins s σ H _ I hq) fun us s1 ⟨xs, H1, I1, r, z, q⟩ => ⟨by rw [← r.length]; exact z, ?_⟩)
  have hf : H1 s1.heap.objs.size = none := I1.hok.fresh (Nat.le_refl _)
  refine ⟨.ref s1.heap.objs.size, upd H1 s1.heap.objs.size (.lst xs), I1.laid (t' := s1.toks) (fun b u e => Heap.get?_push_of_some _ e) (Nat.le_refl _) ?_, rfl, q _ hf⟩
  exact ⟨z, us, 0, r, Heap.get?_push_size _ rfl⟩
end

/-! ### what a def promises -/
/-- a def's promise: the bound arguments in the parameters' order, the heap, the wanted end, the wanted exception -/
abbrev Sp := List V → Hp → VK → XK → Prop
/-- how an exception lies behind a call (file 08 gives it): the callers' frames, abstract heap and state ahead of the call, the wish, the exception, the state -/
abbrev CXT := List Env → Hp → Shared → XK → Value → Shared → Prop

/-- the state at a call -/
structure Env0 (P : Program) (w : World) (K : PySem.W.Frag) (mg : Str → Option Value) (base : Heap) (A : Around) (outer : List Env) (s : Shared) (H : Hp) : Prop where
  frames : A.frames = some outer
  mod : Mod K mg base
  bs : ∀ b o, base.get? b = some o → s.heap.get? b = some o ∧ H b = none
  bsz : base.objs.size ≤ s.heap.objs.size
  funs : s.heap.FunFrames base outer
  frf : ∀ b ∈ frs outer, H b = none
  hok : HOk P w H s.heap
  bare : AllBare s.gens
/-- a call's end -/
def CE (outer : List Env) (P : Program) (w : World) (H : Hp) (s : Shared) (Q : VK) (u : Value) (s' : Shared) : Prop :=
  ∃ v H', s'.os = s.os ∧ AllBare s'.gens ∧ Un (frs outer) [] H H' s.heap s'.heap ∧ HOk P w H' s'.heap ∧ RelV v u ∧ Q v H'
def CR (CX : CXT) (outer : List Env) (P : Program) (w : World) (H : Hp) (s : Shared) (Q : VK) (E : XK) (r : Result) (s' : Shared) : Prop :=
  match r with
  | .ok (.ret u) => CE outer P w H s Q u s'
  | .ok _ => False
  | .error e => CX outer H s E e s'
structure FnOk (P : Program) (w : World) (K : PySem.W.Frag) (mg : Str → Option Value) (base : Heap) (CX : CXT) (k : Nat) (f : Addr) (fd : FuncData) (ps : List Str) (sp : Sp) : Prop where
  len : ∀ vs H Q E, sp vs H Q E → vs.length = ps.length
  run : ∀ (A : Around) (outer : List Env) (s : Shared) (H : Hp) (args : Args) (us : List Value) (vs : List V) (Q : VK) (E : XK), Room k A → Env0 P w K mg base A outer s H → BindsTo s fd args (ps.zip us) → Vals vs us → sp vs H Q E →
    codeAny (model P w) A (.call (.ref f) args) (CR CX outer P w H s Q E) s
theorem FnOk.mono {P : Program} {w : World} {K : PySem.W.Frag} {mg : Str → Option Value} {base : Heap} {CX : CXT} {j k : Nat} {f : Addr} {fd : FuncData} {ps : List Str} {sp : Sp} (F : FnOk P w K mg base CX j f fd ps sp) (h : j ≤ k) :
    FnOk P w K mg base CX k f fd ps sp := ⟨F.len, fun A outer s H args us vs Q E hr => F.run A outer s H args us vs Q E (hr.mono h)⟩
/-- a weaker promise -/
theorem FnOk.imp {P : Program} {w : World} {K : PySem.W.Frag} {mg : Str → Option Value} {base : Heap} {CX : CXT} {k : Nat} {f : Addr} {fd : FuncData} {ps : List Str} {sp sp' : Sp} (F : FnOk P w K mg base CX k f fd ps sp)
    (h : ∀ vs H Q E, sp' vs H Q E → sp vs H Q E) : FnOk P w K mg base CX k f fd ps sp' :=
  ⟨fun vs H Q E q => F.len vs H Q E (h _ _ _ _ q), fun A outer s H args us vs Q E hr he hb hv hs => F.run A outer s H args us vs Q E hr he hb hv (h _ _ _ _ hs)⟩

theorem Env0.make {P : Program} {w : World} {K : PySem.W.Frag} {mg : Str → Option Value} {base : Heap} {A : Around} {outer : List Env} {s : Shared} {H : Hp} (e : Env0 P w K mg base A outer s H) (C : Addr) (us : List Value) (kw : List (Str × Value)) :
    Env0 P w K mg base (A.under (.builtin "type.__call__" ⟨.ref C :: us, kw⟩)) outer s H := ⟨by first | exact e.frames | (simpa [Around.under, Code.envs, Code.isFrame, pushEnvs] using e.frames), e.mod, e.bs, e.bsz, e.funs, e.frf, e.hok, e.bare⟩
theorem Env0.in1 {P : Program} {w : World} {K : PySem.W.Frag} {mg : Str → Option Value} {base : Heap} {A : Around} {outer : List Env} {s : Shared} {H : Hp} (e : Env0 P w K mg base A outer s H) :
    Env0 P w K mg base A.in1 outer s H := ⟨e.frames, e.mod, e.bs, e.bsz, e.funs, e.frf, e.hok, e.bare⟩

section
variable {X : Cx} {pins : List (Addr × Obj)} {σ : St} {H : Hp} {s s' : Shared}
/-- from a body: what a callee wants -/
theorem Inv.env0 (I : Inv X pins σ H s) : Env0 X.prog X.w X.K X.mg X.base X.A X.stack s H :=
  ⟨I.ok.frames, I.ok.mod, I.bs, Nat.le_trans I.ok.bsz I.sz, I.stack, I.stkFree, I.hok, I.bare⟩
/-- behind a call -/
theorem Inv.after {Q : VK} {u : Value} (I : Inv X pins σ H s) (h : CE X.stack X.prog X.w H s Q u s') : EP X pins σ Q u s' := by
  obtain ⟨v, H', os, bare, un, hok, r, q⟩ := h
  obtain ⟨hh, g, d, t, os'⟩ := s'
  obtain rfl : os' = s.os := os
  exact ⟨v, H', I.call (h' := hh) (g' := g) (d' := d) (t' := t) (ch := []) un hok bare (fun b z => absurd z (by simp)), r, q⟩
end

/-! ### calls -/
/-- f(..): the written arguments, then the defaults dvs; E: what is wanted of an exception -/
def tCall (sp : Sp) (dvs : List V) (E : XK) (t : TA) : TE := fun σ H Q => t σ H fun vs H1 => sp (vs ++ dvs) H1 Q E
/-- o.m(..) of an instance of the class at C -/
def tMeth (C : Addr) (m : Str) (sp : Sp) (dvs : List V) (E : XK) (ta : TE) (t : TA) : TE := fun σ H Q => ta σ H fun x H1 => ∃ a dx fs, x = .ref a ∧ H1 a = some (.ins C dx fs) ∧ fs.lookup m = none ∧
  t σ H1 fun vs H2 => sp (x :: (vs ++ dvs)) H2 Q E
/-- C(..): a new instance and its dict, then __init__ -/
def tMake (C : Addr) (sp : Sp) (dvs : List V) (E : XK) (t : TA) : TE := fun σ H Q => t σ H fun vs H1 => ∀ x dx, H1 x = none → H1 dx = none → dx ≠ x →
  sp (.ref x :: (vs ++ dvs)) (upd (upd H1 dx (.own x)) x (.ins C dx [])) (fun v H2 => v = .non ∧ Q (.ref x) H2) E

/-- how the parameters are bound: us the positional arguments, kw the keywords' values by name, ds the defaults that fill up -/
def Binds (K : PySem.W.Frag) (fd : FuncData) (ps : List Str) (ds : List Value) : Prop :=
  ∀ (s : Shared) (us : List Value), K.In s.heap → (us ++ ds).length = ps.length → BindsTo s fd ⟨us, []⟩ (ps.zip (us ++ ds))
/-- every parameter is given -/
theorem Binds.all {K : PySem.W.Frag} {fd : FuncData} {ps : List Str} (h : ∀ us : List Value, us.length = ps.length → bindArgs fd ⟨us, []⟩ = pure (ps.zip us)) : Binds K fd ps [] := fun s us _ hl => by
  rw [List.append_nil] at hl ⊢
  exact .of_eq (h us hl)

/-- an exception of a callee reaches what this body wants of exceptions -/
def Passes (CX : CXT) (X : Cx) (E : XK) : Prop := ∀ (pins : List (Addr × Obj)) (σ : St) (H : Hp) (s : Shared) (e : Value) (s' : Shared), Inv X pins σ H s → CX X.stack H s E e s' → X.xe e s'

section
variable {X : Cx} {CX : CXT} {k : Nat} {f C : Addr} {fd : FuncData} {ps : List Str} {sp : Sp} {dvs : List V} {ds : List Value} {E : XK} {x m : Str} {p pos apos : Pos} {e o : Expr} {es : List Expr} {ta : TE} {t : TA}

/-- the callee runs -/
theorem run_fn {pins : List (Addr × Obj)} {σ : St} {H : Hp} {s : Shared} {Q : VK} {us : List Value} {vs : List V} (F : FnOk X.prog X.w X.K X.mg X.base CX k f fd ps sp) (hr : Room k X.A) (hb : Binds X.K fd ps ds) (hd : Vals dvs ds) (hx : Passes CX X E)
    (I : Inv X pins σ H s) (r : Vals vs us) (h : sp (vs ++ dvs) H Q E) : wpAny (model X.prog X.w) X.A (call (.ref f) us) (EP X pins σ Q) X.xe s := by
  have r2 : Vals (vs ++ dvs) (us ++ ds) := r.append hd
  have hl : (us ++ ds).length = ps.length := by rw [← r2.length]; exact F.len _ _ _ _ h
  refine wpAny_call (codeAny_mono (F.run X.A X.stack s H ⟨us, []⟩ (us ++ ds) (vs ++ dvs) Q E hr I.env0 (hb s us I.kIn hl) r2 h) fun r s' hq => ?_)
  cases r with
  | error e => exact hx pins σ H s e s' I hq
  | ok fl =>
    cases fl with
    | ret u => exact I.after hq
    | next => exact False.elim hq
    | brk => exact False.elim hq
    | cont => exact False.elim hq

theorem pe_call (F : FnOk X.prog X.w X.K X.mg X.base CX k f fd ps sp) (hr : Room k X.A) (hg : Gl X x) (hm : X.mg x = some (.ref f)) (hk : PySem.W.keepIn X.K (.ref f) = true) (hb : Binds X.K fd ps ds) (hd : Vals dvs ds) (hx : Passes CX X E)
    (ha : PA X (e :: es) t) (hdb : (x == ("__debug__" : Str)) = false := by decide) (he : starEach (e :: es) X.env = (false, eval e X.env) :: starEach es X.env := by rfl) (hpl : (backTo pos (starEach es X.env)).any (·.1) = false := by rfl) :
    PE X (.Call (.Name x p) (e :: es) [] pos) (tCall sp dvs E t) := by
  intro pins s σ H Q I h
  refine wpAny_Call_Name_kw (ld_glob I hg hm ?_ hdb)
  refine PySem.W.callWith_K (h₀ := X.base) I.ok.mod.kin hk (thn (ha pos pins s σ H _ I h) fun us s1 ⟨vs, H1, I1, r, q⟩ => ⟨I1.kIn, ?_⟩) he hpl
  exact run_fn F hr hb hd hx I1 r q
theorem pe_call0 (F : FnOk X.prog X.w X.K X.mg X.base CX k f fd ps sp) (hr : Room k X.A) (hg : Gl X x) (hm : X.mg x = some (.ref f)) (hk : PySem.W.keepIn X.K (.ref f) = true) (hb : Binds X.K fd ps ds) (hd : Vals dvs ds) (hx : Passes CX X E)
    (hdb : (x == ("__debug__" : Str)) = false := by decide) : PE X (.Call (.Name x p) [] [] pos) (tCall sp dvs E tNil) := by
  intro pins s σ H Q I h
  refine wpAny_Call_Name_kw (ld_glob I hg hm ?_ hdb)
  exact PySem.W.callWith_K0 I.kIn hk (run_fn (us := []) F hr hb hd hx I .nil h)

/-- o.m(e, ..) -/
theorem pe_meth {pl : Sem Bool} (he : PE X o ta) (c : Cls X.K C) (hm : Meth X.K C m f) (F : FnOk X.prog X.w X.K X.mg X.base CX k f fd ps sp) (hr : Room k X.A) (hb : Binds X.K fd ps ds) (hd : Vals dvs ds) (hx : Passes CX X E) (ha : PA X (e :: es) t)
    (hst : starEach (e :: es) X.env = (false, eval e X.env) :: starEach es X.env := by rfl) (hpl : (backTo pos (starEach es X.env)).any (·.1) = false := by rfl)
    (ht : eval (.Call (.Attribute o m apos) (e :: es) [] pos) X.env = (do
      let ov ← eval o X.env
      standAt apos.atName
      let (f, first) ← holding [ov] (getMethod ov m pl)
      callWith pos f first (backTo pos (starEach (e :: es) X.env)) (backToKw pos (keywordEach [] X.env))) := by rfl) :
    PE X (.Call (.Attribute o m apos) (e :: es) [] pos) (tMeth C m sp dvs E ta t) := by
  intro pins s σ H Q I h
  refine PySem.W.methodCall_KW (pl := pl) (thn (he pins s σ H _ I h) fun u s1 ⟨x, H1, I1, rx, a, dx, fs, ex, ea, l, q⟩ => ?_) ht
  subst ex
  obtain rfl : u = Value.ref a := rx
  refine getmeth_ok I1 ea c hm l ?_
  refine PySem.W.callWith_K (first := [.ref a]) (h₀ := X.base) I.ok.mod.kin hm.kp (thn (ha pos pins s1 σ H1 _ I1 q) fun us s2 ⟨vs, H2, I2, r, q2⟩ => ⟨I2.kIn, ?_⟩) hst hpl
  exact run_fn (us := .ref a :: us) (vs := .ref a :: vs) F hr hb hd hx I2 (.cons rfl r) q2
/-- o.m() -/
theorem pe_meth0 {pl : Sem Bool} (he : PE X o ta) (c : Cls X.K C) (hm : Meth X.K C m f) (F : FnOk X.prog X.w X.K X.mg X.base CX k f fd ps sp) (hr : Room k X.A) (hb : Binds X.K fd ps ds) (hd : Vals dvs ds) (hx : Passes CX X E)
    (ht : eval (.Call (.Attribute o m apos) [] [] pos) X.env = (do
      let ov ← eval o X.env
      standAt apos.atName
      let (f, first) ← holding [ov] (getMethod ov m pl)
      callWith pos f first (backTo pos (starEach [] X.env)) (backToKw pos (keywordEach [] X.env))) := by rfl) :
    PE X (.Call (.Attribute o m apos) [] [] pos) (tMeth C m sp dvs E ta tNil) := by
  intro pins s σ H Q I h
  refine PySem.W.methodCall_KW (pl := pl) (thn (he pins s σ H _ I h) fun u s1 ⟨x, H1, I1, rx, a, dx, fs, ex, ea, l, q⟩ => ?_) ht
  subst ex
  obtain rfl : u = Value.ref a := rx
  refine getmeth_ok I1 ea c hm l ?_
  exact PySem.W.callWith_K0 (first := [.ref a]) I1.kIn hm.kp (run_fn (us := [.ref a]) (vs := [.ref a]) F hr hb hd hx I1 (.cons rfl .nil) q)

/-- what a class must have to be made -/
structure Mk (K : PySem.W.Frag) (C f : Addr) : Prop where
  makes : PySem.W.makesIn K C = true
  init : PySem.W.findIn K (.ref C) "__init__" = some (some (.ref f))
  fn : PySem.W.isFn K (.ref f) = true
  kp : PySem.W.keepIn K (.ref C) = true

theorem run_make {pins : List (Addr × Obj)} {σ : St} {H : Hp} {s : Shared} {Q : VK} {us : List Value} {vs : List V} (M : Mk X.K C f) (F : FnOk X.prog X.w X.K X.mg X.base CX k f fd ps sp) (hr : Room (k + 1) X.A) (hb : Binds X.K fd ps ds) (hd : Vals dvs ds)
    (hx : Passes CX X E) (I : Inv X pins σ H s) (r : Vals vs us)
    (h : ∀ x dx, H x = none → H dx = none → dx ≠ x → sp (.ref x :: (vs ++ dvs)) (upd (upd H dx (.own x)) x (.ins C dx [])) (fun v H2 => v = .non ∧ Q (.ref x) H2) E) :
    wpAny (model X.prog X.w) X.A (call (.ref C) us) (EP X pins σ Q) X.xe s := by
  have hq := h (s.heap.objs.size + 1) s.heap.objs.size (I.hok.fresh (Nat.le_succ _)) (I.hok.fresh (Nat.le_refl _)) (Nat.ne_of_lt (Nat.lt_succ_self _))
  have I2 := Inv.made (C := C) I
  have r2 : Vals (V.ref (s.heap.objs.size + 1) :: (vs ++ dvs)) (Value.ref (s.heap.objs.size + 1) :: (us ++ ds)) := .cons rfl (r.append hd)
  have hl : (Value.ref (s.heap.objs.size + 1) :: us ++ ds).length = ps.length := by
    have e := r2.length
    rw [F.len _ _ _ _ hq] at e
    exact e.symm
  refine wpAny_call (make_map (f := f) I.kIn M.makes M.init (beq_iff_eq.mp M.fn) (codeAny_mono (F.run _ X.stack _ _ ⟨Value.ref (s.heap.objs.size + 1) :: us, []⟩ (Value.ref (s.heap.objs.size + 1) :: (us ++ ds)) _ _ E (hr.make C us [])
    (I2.env0.make C us []) (hb _ (Value.ref (s.heap.objs.size + 1) :: us) I2.kIn hl) r2 hq) fun r s' hq' => ?_))
  cases r with
  | error e => exact hx pins σ _ _ e s' I2 hq'
  | ok fl =>
    cases fl with
    | ret u =>
      obtain ⟨v, H', I3, rv, ev, q3⟩ := I2.after hq'
      subst ev
      exact ⟨rv, ⟨V.ref (s.heap.objs.size + 1), H', I3, rfl, q3⟩⟩
    | next => exact False.elim hq'
    | brk => exact False.elim hq'
    | cont => exact False.elim hq'
theorem pe_make (M : Mk X.K C f) (F : FnOk X.prog X.w X.K X.mg X.base CX k f fd ps sp) (hr : Room (k + 1) X.A) (hg : Gl X x) (hm : X.mg x = some (.ref C)) (hb : Binds X.K fd ps ds) (hd : Vals dvs ds) (hx : Passes CX X E)
    (ha : PA X (e :: es) t) (hdb : (x == ("__debug__" : Str)) = false := by decide) (he : starEach (e :: es) X.env = (false, eval e X.env) :: starEach es X.env := by rfl) (hpl : (backTo pos (starEach es X.env)).any (·.1) = false := by rfl) :
    PE X (.Call (.Name x p) (e :: es) [] pos) (tMake C sp dvs E t) := by
  intro pins s σ H Q I h
  refine wpAny_Call_Name_kw (ld_glob I hg hm ?_ hdb)
  refine PySem.W.callWith_K (h₀ := X.base) I.ok.mod.kin M.kp (thn (ha pos pins s σ H _ I h) fun us s1 ⟨vs, H1, I1, r, q⟩ => ⟨I1.kIn, ?_⟩) he hpl
  exact run_make M F hr hb hd hx I1 r q
theorem pe_make0 (M : Mk X.K C f) (F : FnOk X.prog X.w X.K X.mg X.base CX k f fd ps sp) (hr : Room (k + 1) X.A) (hg : Gl X x) (hm : X.mg x = some (.ref C)) (hb : Binds X.K fd ps ds) (hd : Vals dvs ds) (hx : Passes CX X E)
    (hdb : (x == ("__debug__" : Str)) = false := by decide) : PE X (.Call (.Name x p) [] [] pos) (tMake C sp dvs E tNil) := by
  intro pins s σ H Q I h
  refine wpAny_Call_Name_kw (ld_glob I hg hm ?_ hdb)
  exact PySem.W.callWith_K0 I.kIn M.kp (run_make (us := []) M F hr hb hd hx I .nil h)
end

/-! ### keywords -/
/-- the values of the keywords, from the left -/
def PK (X : Cx) (kws : List Keyword) (t : TA) : Prop :=
  ∀ (pos : Pos) (pins : List (Addr × Obj)) (s : Shared) (σ : St) (H : Hp) (Q : List V → Hp → Prop), Inv X pins σ H s → t σ H Q → wpAny (model X.prog X.w) X.A (evalAll ((backToKw pos (keywordEach kws X.env)).map (·.2))) (AP X pins σ Q) X.xe s
section
variable {X : Cx} {CX : CXT} {k : Nat} {f C : Addr} {fd : FuncData} {ps ks : List Str} {sp : Sp} {E : XK} {x m : Str} {p pos apos kpos : Pos} {e o : Expr} {es : List Expr} {kws : List Keyword} {te ta : TE} {t tk : TA} {nm : Option Str}
theorem pk_nil : PK X [] tNil := fun _ _ _ _ H Q I h => wpAny_evalAll_nil ⟨[], H, I, .nil, h⟩
theorem pk_cons (ha : PE X e te) (hr : PK X kws t) : PK X (⟨nm, e, kpos⟩ :: kws) (tCons te t) := by
  intro pos pins s σ H Q I h
  show wpAny _ _ (evalAll ((do let v ← eval e X.env; standAt pos; pure v) :: (backToKw pos (keywordEach kws X.env)).map (·.2))) _ _ s
  refine wpAny_evalAll_cons (wpAny_bind (thn (ha pins s σ H _ I h) fun u s1 ⟨x, H1, I1, r1, q1⟩ => wpAny_bind (wpAny_standAt (wpAny_pure ?_))))
  exact thn (hr pos pins s1 σ H1 _ I1 q1) fun us s2 ⟨xs, H2, I2, r2, q2⟩ => ⟨x :: xs, H2, I2, .cons r1 r2, q2⟩

/-- how a call with keywords binds: g puts the positional values us and the keywords' values ws (names ks) in the parameters' order, defaults among them -/
structure KBinds (K : PySem.W.Frag) (fd : FuncData) (ps ks : List Str) (g : List Value → List Value → List Value) (gV : List V → List V → List V) : Prop where
  to : ∀ (s : Shared) (us ws : List Value), K.In s.heap → (g us ws).length = ps.length → BindsTo s fd ⟨us, ks.zip ws⟩ (ps.zip (g us ws))
  rel : ∀ {vs : List V} {us : List Value} {zs : List V} {ws : List Value}, Vals vs us → Vals zs ws → Vals (gV vs zs) (g us ws)
def tCallK (sp : Sp) (gV : List V → List V → List V) (E : XK) (t tk : TA) : TE := fun σ H Q => t σ H fun vs H1 => tk σ H1 fun zs H2 => sp (gV vs zs) H2 Q E
variable {g : List Value → List Value → List Value} {gV : List V → List V → List V}
theorem run_fnk {pins : List (Addr × Obj)} {σ : St} {H : Hp} {s : Shared} {Q : VK} {us ws : List Value} {vs zs : List V} (F : FnOk X.prog X.w X.K X.mg X.base CX k f fd ps sp) (hr : Room k X.A) (hb : KBinds X.K fd ps ks g gV) (hx : Passes CX X E)
    (I : Inv X pins σ H s) (r : Vals vs us) (rz : Vals zs ws) (h : sp (gV vs zs) H Q E) : wpAny (model X.prog X.w) X.A (call (.ref f) us (ks.zip ws)) (EP X pins σ Q) X.xe s := by
  have r2 := hb.rel r rz
  have hl : (g us ws).length = ps.length := by rw [← r2.length]; exact F.len _ _ _ _ h
  refine wpAny_call (codeAny_mono (F.run X.A X.stack s H ⟨us, ks.zip ws⟩ (g us ws) (gV vs zs) Q E hr I.env0 (hb.to s us ws I.kIn hl) r2 h) fun r s' hq => ?_)
  cases r with
  | error e => exact hx pins σ H s e s' I hq
  | ok fl =>
    cases fl with
    | ret u => exact I.after hq
    | next => exact False.elim hq
    | brk => exact False.elim hq
    | cont => exact False.elim hq
/-- f(e, .., k = v, ..) -/
theorem pe_callK (F : FnOk X.prog X.w X.K X.mg X.base CX k f fd ps sp) (hr : Room k X.A) (hg : Gl X x) (hm : X.mg x = some (.ref f)) (hk : PySem.W.keepIn X.K (.ref f) = true) (hb : KBinds X.K fd ps ks g gV) (hx : Passes CX X E)
    (ha : PA X (e :: es) t) (hkw : PK X kws tk) (hall : (backToKw pos (keywordEach kws X.env)).all (·.1.isSome) = true := by rfl) (hks : (backToKw pos (keywordEach kws X.env)).filterMap (·.1) = ks := by rfl)
    (hdb : (x == ("__debug__" : Str)) = false := by decide) (he : starEach (e :: es) X.env = (false, eval e X.env) :: starEach es X.env := by rfl)
    (hpl : ((backTo pos (starEach (e :: es) X.env)).any (·.1) || (backToKw pos (keywordEach kws X.env)).any (·.1.isNone)) = false := by rfl) :
    PE X (.Call (.Name x p) (e :: es) kws pos) (tCallK sp gV E t tk) := by
  intro pins s σ H Q I h
  refine wpAny_Call_Name_kw (ld_glob I hg hm ?_ hdb)
  refine PySem.W.callWith_KW (h₀ := X.base) I.ok.mod.kin hk hall (thn (ha pos pins s σ H _ I h) fun us s1 ⟨vs, H1, I1, r, q⟩ => ?_) hpl he
  refine thn (hkw pos pins s1 σ H1 _ I1 q) fun ws s2 ⟨zs, H2, I2, rz, q2⟩ => ⟨I2.kIn, ?_⟩
  rw [hks]
  exact run_fnk F hr hb hx I2 r rz q2
end

/-! ### a def's body keeps its promise -/
/-- names: the parameters first -/
structure FnScope (N P : List Str) (sc : Scope) : Prop where
  kind : sc.kind = .function
  co : sc.isCoroutine = false
  gen : sc.isGenerator = false
  nd : N.Nodup
  pre : N.take P.length = P
  par : ∀ x ∈ P, sc.names.lookup x = some .local ∨ sc.names.lookup x = some .cell
  nofree : ∀ y ∈ sc.names, y.2 ≠ .free

theorem bindL_out {kindOf : Str → Option NameKind} {x : Str} : ∀ {binds : List (Str × Value)} {m : Str → Option Value}, (∀ v, (x, v) ∉ binds) → bindL kindOf binds m x = m x
  | [], _, _ => rfl
  | (n, v) :: r, m, h => by
    unfold bindL
    rw [bindL_out fun w hw => h w (List.mem_cons_of_mem _ hw)]
    split
    · have : x ≠ n := by rintro rfl; exact h v List.mem_cons_self
      simp [this]
    · rfl
theorem bindC_out {kindOf : Str → Option NameKind} {x : Str} : ∀ {binds : List (Str × Value)} {m : Str → Option Value}, (∀ v, (x, v) ∉ binds) → bindC kindOf binds m x = m x
  | [], _, _ => rfl
  | (n, v) :: r, m, h => by
    unfold bindC
    rw [bindC_out fun w hw => h w (List.mem_cons_of_mem _ hw)]
    split
    · rfl
    · have : x ≠ n := by rintro rfl; exact h v List.mem_cons_self
      simp [this]
theorem bindL_get {kindOf : Str → Option NameKind} {x : Str} {v : Value} : ∀ {P : List Str} {vs : List Value} {i : Nat} {m : Str → Option Value}, P.Nodup → P[i]? = some x → vs[i]? = some v → kindOf x = some .local →
    bindL kindOf (P.zip vs) m x = some v
  | [], _, _, _, _, h, _, _ => by simp at h
  | _ :: _, [], _, _, _, _, h, _ => by simp at h
  | p :: P, w :: vs, 0, m, nd, h1, h2, hk => by
    simp at h1 h2; subst h1; subst h2
    show bindL kindOf ((p, w) :: P.zip vs) m p = _
    unfold bindL
    rw [bindL_out fun v hv => (List.nodup_cons.mp nd).1 (List.of_mem_zip hv).1, if_pos hk]
    simp
  | p :: P, w :: vs, i + 1, m, nd, h1, h2, hk => by
    show bindL kindOf ((p, w) :: P.zip vs) m x = _
    unfold bindL
    exact bindL_get (i := i) (List.nodup_cons.mp nd).2 (by simpa using h1) (by simpa using h2) hk
theorem bindC_get {kindOf : Str → Option NameKind} {x : Str} {v : Value} : ∀ {P : List Str} {vs : List Value} {i : Nat} {m : Str → Option Value}, P.Nodup → P[i]? = some x → vs[i]? = some v → kindOf x ≠ some .local →
    bindC kindOf (P.zip vs) m x = some v
  | [], _, _, _, _, h, _, _ => by simp at h
  | _ :: _, [], _, _, _, _, h, _ => by simp at h
  | p :: P, w :: vs, 0, m, nd, h1, h2, hk => by
    simp at h1 h2; subst h1; subst h2
    show bindC kindOf ((p, w) :: P.zip vs) m p = _
    unfold bindC
    rw [bindC_out fun v hv => (List.nodup_cons.mp nd).1 (List.of_mem_zip hv).1, if_neg hk]
    simp
  | p :: P, w :: vs, i + 1, m, nd, h1, h2, hk => by
    show bindC kindOf ((p, w) :: P.zip vs) m x = _
    unfold bindC
    exact bindC_get (i := i) (List.nodup_cons.mp nd).2 (by simpa using h1) (by simpa using h2) hk

/-- the names' values at the entry -/
def start (N : List Str) (vs : List V) : St := vs.map some ++ List.replicate (N.length - vs.length) none

/-- the context of a def's body, at its entry; an exception leaves the frame, then lies as CX says -/
def cxOf (CX : CXT) (P : Program) (w : World) (K : PySem.W.Frag) (mg : Str → Option Value) (base : Heap) (N : List Str) (qual : Str) (scope : Scope) (f : Addr) (cd : Value) (A : Around) (outer : List Env) (s : Shared) (H : Hp) (E : XK) : Cx where
  prog := P
  w := w
  K := K
  mg := mg
  base := base
  A := A.deeper (envOfC qual scope s.heap.objs.size f cd)
  N := N
  s₀ := s
  H₀ := H
  env := envOfC qual scope s.heap.objs.size f cd
  outer := outer
  stack := envOfC qual scope s.heap.objs.size f cd :: outer
  ex := []
  calm := true
  fn := fun _ => true
  pn := []
  xe := fun e s' => wpAny (model P w) (A.deeper (envOfC qual scope s.heap.objs.size f cd)) (leaving (envOfC qual scope s.heap.objs.size f cd) e) (fun _ s'' => CX outer H s E e s'') (fun e' s'' => CX outer H s E e' s'') s'

theorem cell_has {sc : Scope} {n : Nat} {x : Str} (h : sc.names.lookup x = some .cell) : ∃ c, (cellsFrom n sc.names []).lookup x = some c := by
  have q := PySem.W.cellsFrom_some sc.names n [] (.inl h)
  exact Option.isSome_iff_exists.mp q

theorem inv_start {CX : CXT} {P : Program} {w : World} {K : PySem.W.Frag} {mg : Str → Option Value} {base : Heap} {N ps : List Str} {qual : Str} {scope : Scope} {f : Addr} {cd : Value} {A : Around} {outer : List Env} {s s1 : Shared} {H : Hp} {E : XK} {us : List Value} {vs : List V}
    (S : FnScope N ps scope) (hd : A.handled = none) (e0 : Env0 P w K mg base A outer s H) (hl : vs.length = ps.length) (r : Vals vs us)
    (x : InCallC s s.heap.objs.size (bindL (envOfC qual scope s.heap.objs.size f cd).kindOf (ps.zip us) fun _ => none) (cellsFrom (s.heap.objs.size + 1) scope.names []) (bindC (envOfC qual scope s.heap.objs.size f cd).kindOf (ps.zip us) fun _ => none) s1) :
    Inv (cxOf CX P w K mg base N qual scope f cd A outer s H E) [] (start N vs) H s1 := by
  have hpl : ps.length ≤ N.length := by have := congrArg List.length S.pre; rw [List.length_take] at this; omega
  obtain ⟨h1, tk, rfl, hk⟩ := x.done
  have noA : ∀ b : Addr, b ∉ (cxOf CX P w K mg base N qual scope f cd A outer s H E).ex := fun b z => absurd (show b ∈ ([] : List Addr) from z) (by simp)
  refine ⟨⟨e0.mod, S.kind, rfl, rfl, Nat.le_refl _, fun y z c h1 h2 => ?_, fun y hy => ?_, fun y c _ h => ?_, fun _ => hd, Around.frames_deeper e0.frames, .inr ⟨rfl, rfl⟩, fun b z => absurd z (noA b), e0.bs, e0.bsz, fun b _ _ => noA b, fun b z => absurd z (noA b), e0.funs, e0.frf⟩,
    rfl, e0.bare, Un.kept hk, ⟨_, x.toInCall.ns, fun i y v h1 h2 h3 => ?_⟩, fun y c h => ⟨_, x.cell y c h⟩, e0.hok.fresh (Nat.le_refl _), fun y c h => ?_, fun p hp => absurd (show p ∈ ([] : List (Addr × Obj)) from hp) (by simp), e0.hok.kept hk, ?_⟩
  · exact name_of_addr x.apart (PySem.mem_of_lookup h1) (PySem.mem_of_lookup h2)
  · have hy : scope.names.lookup y = some .cell ∨ scope.names.lookup y = some .free := hy
    rcases hy with hy | hy
    · exact cell_has hy
    · exact absurd rfl (S.nofree _ (PySem.mem_of_lookup hy))
  · exact Nat.le_of_lt (x.above y c (PySem.mem_of_lookup h))
  · have hi : i < vs.length := by
      unfold start at h2
      by_cases hi : i < vs.length
      · exact hi
      · rw [List.getElem?_append_right (by simpa using hi)] at h2
        rw [List.getElem?_replicate] at h2
        split at h2 <;> cases h2
    have ha : vs[i]? = some v := by
      unfold start at h2
      rw [List.getElem?_append_left (by simpa using hi), List.getElem?_map] at h2
      cases e : vs[i]? with
      | none => rw [e] at h2; cases h2
      | some a => rw [e] at h2; cases h2; rfl
    obtain ⟨u, hu, rv⟩ := r.get ha
    have hp : ps[i]? = some y := by
      rw [← S.pre, List.getElem?_take_of_lt (by omega)]; exact h1
    have ndP : ps.Nodup := by rw [← S.pre]; exact S.nd.sublist (List.take_sublist _ _)
    refine ⟨u, rv, ?_⟩
    rcases S.par y (List.mem_of_getElem? hp) with k | k
    · exact .inl ⟨k, bindL_get ndP hp hu k⟩
    · obtain ⟨c, e⟩ := cell_has (n := s.heap.objs.size + 1) k
      refine .inr ⟨.inl k, c, e, ?_⟩
      have q := x.cell y c e
      rw [bindC_get ndP hp hu (by show scope.names.lookup y ≠ _; rw [k]; decide)] at q
      exact q
  · exact e0.hok.fresh (Nat.le_of_lt (x.above y c (PySem.mem_of_lookup h)))
  · unfold start
    show _ = N.length
    rw [List.length_append, List.length_map, List.length_replicate]
    omega

/-- THE RULE: a def (or a method) of the text, by its body. The body's reading t is chosen for each entry; it is run at the parameters' values -/
theorem fn_of {CX : CXT} {P : Program} {w : World} {K : PySem.W.Frag} {mg : Str → Option Value} {base : Heap} {k : Nat} {f : Addr} {name qual : Str} {params : Arguments} {body : List Stmt} {scope : Scope} {dV kV doc pm cdv ct oc : Value} {an od : Option Addr}
    {osl : Array (Option Value)} {N ps : List Str} {sp : Sp} (lk : K.lookup f = some ⟨oc, od, .func (PySem.W.fnOf name qual params body scope dV kV doc pm an cdv ct), osl⟩) (hcd : PySem.W.codeIn K cdv qual = true) (S : FnScope N ps scope)
    (len : ∀ vs H Q E, sp vs H Q E → vs.length = ps.length)
    (hbody : ∀ (A : Around) (outer : List Env) (s : Shared) (H : Hp) (vs : List V) (Q : VK) (E : XK), Room k (A.deeper (envOfC qual scope s.heap.objs.size f cdv)) → sp vs H Q E →
      ∃ t, PSs (cxOf CX P w K mg base N qual scope f cdv A outer s H E) body t ∧ t { nx := fun _ H' => Q .non H', rt := Q } (start N vs) H) :
    FnOk P w K mg base CX (k + 1) f (PySem.W.fnOf name qual params body scope dV kV doc pm an cdv ct) ps sp := by
  refine ⟨len, fun A outer s H args us vs Q E hr e0 hb r hsp => ?_⟩
  have hl := len _ _ _ _ hsp
  have KX : K.In s.heap := e0.mod.kin.keeps fun b o e => (e0.bs b o e).1
  have lim : s.heap.NoLimit := e0.mod.nolimit.keeps fun b o e => (e0.bs b o e).1
  have hkind : ∀ y ∈ ps.zip us, scope.names.lookup y.1 = some .local ∨ (scope.names.lookup y.1 = some .cell ∧ ((cellsFrom (s.heap.objs.size + 1) scope.names []).lookup y.1).isSome = true) := fun ⟨n, v⟩ hy => by
    rcases S.par n (List.of_mem_zip hy).1 with q | q
    · exact .inl q
    · exact .inr ⟨q, PySem.W.cellsFrom_some _ _ _ (.inl q)⟩
  refine codeAny_call_function hr.depth (KX _ _ lk) rfl S.co S.gen rfl (PySem.W.codeRec_of KX hcd) (hb _ _ _ _ ?_)
  refine wpAny_newFunctionEnv_cells S.kind hkind fun env he s1 x => ?_
  subst he
  refine ⟨lim.keeps x.toInCall.keep, codeAny_func ?_⟩
  obtain ⟨t, ht, hq⟩ := hbody A outer s H vs Q E (hr.deeper _) hsp
  have I : Inv (cxOf CX P w K mg base N qual scope f cdv A outer s H E) [] (start N vs) H s1 := inv_start S hr.hd e0 hl r x
  refine wpAny_mono (ht [] s1 (start N vs) H _ I hq) (fun fl s' hs => ?_) fun e s' hs => hs
  have fin : ∀ {σ' : St} {H' : Hp} {v : V} {u : Value}, Inv (cxOf CX P w K mg base N qual scope f cdv A outer s H E) [] σ' H' s' → RelV v u → Q v H' → CE outer P w H s Q u s' :=
    fun {σ' H' v u} J rv q => ⟨v, H', J.os, J.bare, J.base, J.hok, rv, q⟩
  cases fl with
  | ret u =>
    obtain ⟨v, σ', H', J, rv, q⟩ := hs
    exact fin J rv q
  | next =>
    obtain ⟨σ', H', J, q⟩ := hs
    exact fin (v := V.non) (u := Value.none) J rfl q
  | brk =>
    obtain ⟨_, _, _, q⟩ := hs
    exact False.elim q
  | cont =>
    obtain ⟨_, _, _, q⟩ := hs
    exact False.elim q
end L2

namespace L2
open PySem PySem.Spec PyProof.Rows
section
variable {X : Cx} {x : Str} {p pos : Pos} {e : Expr} {es : List Expr} {t : TA} {id T : String} {r : List V → Hp → VK → Prop}

def tCB (r : List V → Hp → VK → Prop) (t : TA) : TE := fun σ H Q => t σ H fun vs H1 => r vs H1 Q
/-- f(e, ..), f a built-in function -/
theorem pe_callB (hc : CallR X (.builtin id) r) (hg : Gl X x) (hm : X.mg x = none) (hv : bootBuiltins x = some (.builtin id)) (ha : PA X (e :: es) t) (hn : x ≠ "__name__" := by decide) (hdb : (x == ("__debug__" : Str)) = false := by decide)
    (he : starEach (e :: es) X.env = (false, eval e X.env) :: starEach es X.env := by rfl) (hpl : (backTo pos (starEach es X.env)).any (·.1) = false := by rfl) : PE X (.Call (.Name x p) (e :: es) [] pos) (tCB r t) := by
  intro pins s σ H Q I h
  refine wpAny_Call_Name_kw (ld_blt I hg hm hv ?_ hn hdb)
  exact PyProof.Rows.callWith_builtin1 (thn (ha pos pins s σ H _ I h) fun us s1 ⟨vs, H1, I1, r1, q1⟩ => hc pins s1 σ H1 vs us Q I1 r1 q1) he hpl
/-- T(e, ..), T a built-in type -/
theorem pe_callTy (hc : CallR X (.type T) r) (hg : Gl X x) (hm : X.mg x = none) (hv : bootBuiltins x = some (.type T)) (ha : PA X (e :: es) t) (hn : x ≠ "__name__" := by decide) (hdb : (x == ("__debug__" : Str)) = false := by decide)
    (he : starEach (e :: es) X.env = (false, eval e X.env) :: starEach es X.env := by rfl) (hpl : (backTo pos (starEach es X.env)).any (·.1) = false := by rfl) : PE X (.Call (.Name x p) (e :: es) [] pos) (tCB r t) := by
  intro pins s σ H Q I h
  refine wpAny_Call_Name_kw (ld_blt I hg hm hv ?_ hn hdb)
  exact PyProof.Rows.callWith_type1 (thn (ha pos pins s σ H _ I h) fun us s1 ⟨vs, H1, I1, r1, q1⟩ => hc pins s1 σ H1 vs us Q I1 r1 q1) he hpl
/-- T() -/
theorem pe_callTy0 (hc : CallR X (.type T) r) (hg : Gl X x) (hm : X.mg x = none) (hv : bootBuiltins x = some (.type T)) (hn : x ≠ "__name__" := by decide) (hdb : (x == ("__debug__" : Str)) = false := by decide) :
    PE X (.Call (.Name x p) [] [] pos) (tCB r tNil) := by
  intro pins s σ H Q I h
  refine wpAny_Call_Name_kw (ld_blt I hg hm hv ?_ hn hdb)
  exact PyProof.Rows.callWith_type0 (hc pins s σ H [] [] Q I .nil h)
end
end L2

namespace HT
open PySem PyProof.Rows

/-- t < u of tuples of ints -/
def lexLt : List Int → List Int → Bool
  | [], [] => false
  | [], _ :: _ => true
  | _ :: _, [] => false
  | x :: xs, y :: ys => if x = y then lexLt xs ys else decide (x < y)
theorem lexLt_cons (x y : Int) (xs ys : List Int) : lexLt (x :: xs) (y :: ys) = if x = y then lexLt xs ys else decide (x < y) := rfl
theorem lexLt_nil_nil : lexLt [] [] = false := rfl
theorem lexLt_nil_cons (y : Int) (ys : List Int) : lexLt [] (y :: ys) = true := rfl
theorem lexLt_cons_nil (x : Int) (xs : List Int) : lexLt (x :: xs) [] = false := rfl

theorem eqAt_int (A : Around) (s : Shared) (a : Int) (t : Tok) (c : Int) (u : Tok) : ∃ e, SeqAt.EqAt A s (.int a t) (.int c u) e ∧ (e = true ↔ a = c) :=
  ⟨(a == c), SeqAt.EqAt.int_int a t c u, by simp⟩
theorem rcLt_int (A : Around) (s : Shared) (a : Int) (t : Tok) (c : Int) (u : Tok) (prog : Program) (w : World) (E : Value → Shared → Prop) (Q : Value → Shared → Prop) (h : Q (.bool (decide (a < c))) s) :
    wpAny (model prog w) A (richCompare .Lt (.int a t) (.int c u)) Q E s :=
  (PyProof.Rows.lt_int h : wpAny (model prog w) A (compareOp .Lt (.int a t) (.int c u)) Q E s)

section
open PySem.SeqAt
open PySem.AutoSeq1 (wpAny_loadPart')
open PySem.MeetsSeq PySem.MeetsSeq2 PySem.MeetsSeq3

theorem tuple_lt_ints (l b : Addr) (items items2 : Array Value) (n n2 : Nat) (dd dd2 : Option Addr) (sl sl2 : Array (Option Value)) (ns ms : List Int) (hi : IntsAre items.toList ns) (hj : IntsAre items2.toList ms) :
    Meets (Builtin.«tuple.__lt__» ⟨[.ref l, .ref b], []⟩)
      (fun _ R s => s.heap.get? l = some { cls := .type "tuple", dict := dd, data := .seq items n, slots := sl } ∧ s.heap.get? b = some { cls := .type "tuple", dict := dd2, data := .seq items2 n2, slots := sl2 } ∧
        R (.ok (.ret (.bool (lexLt ns ms)))) s) :=
  .of_wp fun prog w A R s h => by
    obtain ⟨hp, g, d, tk, os⟩ := s; obtain ⟨hl, hb, h⟩ := h
    have f2 := AutoSeq1.sub_tuple_tuple
    have z1 : items.size = ns.length := by rw [← hi.length]; simp
    have z2 : items2.size = ms.length := by rw [← hj.length]; simp
    wp_walk using wpAny_loadPart' hl, wpAny_loadPart' hb, wpAny_forIn_list _ (fun rest b s' => b.1 = none ∧ s' = ⟨hp, g, d, tk, os⟩ ∧ ∃ (vs ws : List Value) (ns' ms' : List Int), rest = vs.zip ws ∧
      IntsAre vs ns' ∧ IntsAre ws ms' ∧ ns'.length + items2.size = ms'.length + items.size ∧ R (.ok (.ret (.bool (lexLt ns' ms')))) ⟨hp, g, d, tk, os⟩) _
    case turn =>
      rintro ⟨y, x⟩ rest b s' ⟨hb', rfl, vs, ws, ns', ms', hz, hvi, hwi, hlen, hR⟩
      cases hvi with
      | nil => rw [List.zip_nil_left] at hz; cases hz
      | cons a t hvi' =>
        cases hwi with
        | nil => rw [List.zip_nil_right] at hz; cases hz
        | cons c u hwi' =>
          rw [List.zip_cons_cons] at hz
          injection hz with hyx hrest
          injection hyx with hy hx
          subst hy hx
          rw [lexLt_cons] at hR
          simp only [List.length_cons] at hlen
          obtain ⟨e, he, hiff⟩ := eqAt_int A.in1 ⟨hp, g, d, tk, os⟩ a t c u
          refine wpAny_bind (he prog w _ _ ?_)
          cases e with
          | true =>
            rw [if_pos (hiff.mp rfl)] at hR
            wp_walk
            exact ⟨rfl, rfl, _, _, _, _, hrest, hvi', hwi', by omega, hR⟩
          | false =>
            rw [if_neg (fun q => absurd (hiff.mpr q) Bool.false_ne_true)] at hR
            have hri := rcLt_int A.in1 ⟨hp, g, d, tk, os⟩ a t c u prog w
            wp_walk using hri
            exact ⟨_, rfl, by simpa using hR⟩
    case fin =>
      rintro ⟨b1, b2⟩ s' ⟨hb', rfl, vs, ws, ns', ms', hz, hvi, hwi, hlen, hR⟩
      simp only at hb'
      subst hb'
      have hv : lexLt ns' ms' = decide (items.size < items2.size) := by
        cases hvi with
        | nil =>
          cases hwi with
          | nil =>
            simp only [List.length_nil] at hlen
            rw [lexLt_nil_nil]
            exact (decide_eq_false (by omega)).symm
          | cons c u hw =>
            simp only [List.length_nil, List.length_cons] at hlen
            rw [lexLt_nil_cons]
            exact (decide_eq_true (by omega)).symm
        | cons a t hv =>
          cases hwi with
          | nil =>
            simp only [List.length_nil, List.length_cons] at hlen
            rw [lexLt_cons_nil]
            exact (decide_eq_false (by omega)).symm
          | cons c u hw =>
            rw [List.zip_cons_cons] at hz
            cases hz
      rw [hv] at hR
      wp_walk
      exact ⟨_, rfl, by simpa [Builtin.Tuple.tupleCompareSizes] using hR⟩
    case h =>
      exact ⟨rfl, rfl, items.toList, items2.toList, ns, ms, rfl, hi, hj, by omega, h⟩
end

section
variable {prog : Program} {w : World} {A : Around} {E : Value → Shared → Prop} {s : Shared}

theorem lt_tupInts {l b : Addr} {items items2 : Array Value} {ns ms : List Int} {Q : Value → Shared → Prop} (hl : IsTup s.heap l items) (hb : IsTup s.heap b items2) (hi : IntsAre items.toList ns) (hj : IntsAre items2.toList ms)
    (hu : A.units < cLine) (h : Q (.bool (lexLt ns ms)) s) : wpAny (model prog w) A (compareOp .Lt (.ref l) (.ref b)) Q E s := by
  obtain ⟨⟨cls, dd, data, sl⟩, ho, hc, n, hd⟩ := id hl
  obtain ⟨⟨cls2, dd2, data2, sl2⟩, ho2, hc2, n2, hd2⟩ := id hb
  simp only at hc hd hc2 hd2
  subst hc hd hc2 hd2
  exact richCompare_meets_room (op := .Lt) ⟨_, ho, rfl⟩ ⟨_, ho2, rfl⟩ PySem.F.slot_tuple_lt PySem.F.entry_tuple_lt (PySem.F.args_tuple_lt_2 _ _) (tuple_lt_ints l b items items2 n n2 dd dd2 sl sl2 ns ms hi hj)
    ⟨ho, ho2, show Value.bool (lexLt ns ms) ≠ Value.notImplemented ∧ Q (.bool (lexLt ns ms)) s from ⟨(fun x => nomatch x), h⟩⟩ hu

/-- t + u, t not empty -/
theorem cat_tup {t b : Addr} {vs ws : List Value} {Q : Value → Shared → Prop} (ht : IsTup s.heap t vs.toArray) (hb : IsTup s.heap b ws.toArray) (hv : vs ≠ [])
    (h1 : ws = [] → Q (.ref t) s) (h2 : ws ≠ [] → Q (.ref s.heap.objs.size) { s with heap := s.heap.push { cls := .type "tuple", data := .seq (vs ++ ws).toArray } })
    (hsz : vs.length + ws.length ≤ sizeLine) : wpAny (model prog w) A (binaryOp .Add (.ref t) (.ref b)) Q E s := by
  obtain ⟨⟨cls, dd, data, sl⟩, ho, hc, n, hd⟩ := id ht
  obtain ⟨⟨cls2, dd2, data2, sl2⟩, ho2, hc2, n2, hd2⟩ := id hb
  simp only at hc hd hc2 hd2
  subst hc hd hc2 hd2
  have e : vs.toArray ++ ws.toArray = (vs ++ ws).toArray := by simp
  by_cases hw : ws = []
  · exact concat_meets ⟨_, ho, rfl⟩ ⟨_, ho2, rfl⟩ noFill_tuple_add seq_tuple_add PySem.F.slot_tuple_add PySem.F.entry_tuple_add (PySem.F.args_tuple_add_2 _ _)
      (tuple_addW1 t b vs.toArray ws.toArray n n2 dd dd2 sl sl2 (by simpa using hv) (by simp [hw])) ⟨ho, ho2, h1 hw⟩
  · refine concat_meets ⟨_, ho, rfl⟩ ⟨_, ho2, rfl⟩ noFill_tuple_add seq_tuple_add PySem.F.slot_tuple_add PySem.F.entry_tuple_add (PySem.F.args_tuple_add_2 _ _)
      (tuple_addW2 t b vs.toArray ws.toArray n n2 dd dd2 sl sl2 (by simpa using hv) (by simpa using hw) (by rw [List.size_toArray, List.size_toArray]; exact hsz)) ⟨ho, ho2, ?_⟩
    rw [e]
    exact h2 hw

/-! ### t[a:b], not the whole -/
/-- a slice's bound as a place among n (d where it is left out) -/
def sIx (n d : Nat) : Option Int → Nat
  | none => d
  | some v => if v < 0 then (v + (n : Int)).toNat else min v.toNat n
theorem sIx_none (n d : Nat) : sIx n d none = d := rfl
theorem sIx_nat (n d k : Nat) : sIx n d (some (k : Int)) = min k n := by
  show (if (k : Int) < 0 then ((k : Int) + (n : Int)).toNat else min (k : Int).toNat n) = min k n
  rw [if_neg (by omega), Int.toNat_natCast]
theorem sIx_le (n d : Nat) (hd : d ≤ n) (o : Option Int) : sIx n d o ≤ n := by
  cases o with
  | none => exact hd
  | some v =>
    show (if v < 0 then (v + (n : Int)).toNat else min v.toNat n) ≤ n
    by_cases hv : v < 0
    · rw [if_pos hv]; omega
    · rw [if_neg hv]; exact Nat.min_le_right _ _
theorem clip_eq (v : Int) (n d : Nat) : (if v < 0 then max (v + (n : Int)) 0 else min v (n : Int)) = ((sIx n d (some v) : Nat) : Int) := by
  show (if v < 0 then max (v + (n : Int)) 0 else min v (n : Int)) = (((if v < 0 then (v + (n : Int)).toNat else min v.toNat n) : Nat) : Int)
  by_cases hv : v < 0
  · simp only [if_pos hv]; omega
  · simp only [if_neg hv]; omega
theorem adjust_gen (lo hi : Option Int) (n : Nat) : Builtin.Slice.sliceAdjust lo hi 1 (n : Int) = (((sIx n 0 lo : Nat) : Int), ((sIx n n hi : Nat) : Int)) := by
  have h1 : ¬ ((1 : Int) < 0) := by omega
  unfold Builtin.Slice.sliceAdjust
  simp only [h1, if_false]
  refine Prod.ext ?_ ?_
  · cases lo with
    | none => rfl
    | some v => exact clip_eq v n 0
  · cases hi with
    | none => rfl
    | some v => exact clip_eq v n n
theorem places_gen (i j : Nat) : Builtin.Slice.slicePlaces (i : Int) (j : Int) 1 = j - i := by
  unfold Builtin.Slice.slicePlaces
  have h1 : (1 : Int) > 0 := by omega
  simp only [h1, if_true, Int.ediv_one]
  split <;> omega
theorem slicePart_ {v : Value} {o : Option Int} {Q : Option Int → Shared → Prop} (p : IsPart v o) (h : Q o s) : wpAny (model prog w) A (Builtin.Slice.slicePartIndex v) Q E s := by
  cases p with
  | none => exact slicePart_none h
  | int i t => exact slicePart_int h
theorem sliceApplied_gen {sl : Addr} {vl vu : Value} {lo hi : Option Int} {n : Nat} {Q : Int × Int × Nat → Shared → Prop} (hs : s.heap.IsSliceOf sl vl vu .none) (pl : IsPart vl lo) (pu : IsPart vu hi)
    (h : Q (((sIx n 0 lo : Nat) : Int), 1, sIx n n hi - sIx n 0 lo) s) : wpAny (model prog w) A (Builtin.Slice.sliceApplied (.ref sl) (pure (n : Int))) Q E s := by
  obtain ⟨os, hos, hcs, hds⟩ := id hs
  unfold Builtin.Slice.sliceApplied Builtin.Slice.sliceFields
  refine wpAny_bind (wpAny_bind (wpAny_field hos hds (x := vl) rfl (wpAny_bind (wpAny_field hos hds (x := vu) rfl (wpAny_bind (wpAny_field hos hds (x := .none) rfl (wpAny_pure ?_)))))))
  refine wpAny_bind (slicePart_none ?_)
  show wpAny _ _ (if ((1 : Int) == 0) = true then _ else _) _ _ s
  rw [if_neg (by decide)]
  refine wpAny_bind (slicePart_ pl (wpAny_bind (slicePart_ pu (wpAny_bind (wpAny_pure ?_)))))
  show wpAny _ _ (match Builtin.Slice.sliceAdjust lo hi 1 (n : Int) with | (lo, hi) => pure (lo, (1 : Int), Builtin.Slice.slicePlaces lo hi 1)) _ _ s
  rw [adjust_gen lo hi n]
  show wpAny _ _ (pure (((sIx n 0 lo : Nat) : Int), (1 : Int), Builtin.Slice.slicePlaces ((sIx n 0 lo : Nat) : Int) ((sIx n n hi : Nat) : Int) 1)) _ _ s
  rw [places_gen]
  exact wpAny_pure h
theorem pick_gen (xs : Array Value) (i k : Nat) : ((List.range k).filterMap fun (m : Nat) => xs[((i : Int) + (m : Int) * 1).toNat]?).toArray = ((xs.toList.drop i).take k).toArray := by
  have e : (fun (m : Nat) => xs[((i : Int) + (m : Int) * 1).toNat]?) = fun m => xs[i + m]? := by
    funext m
    have : ((i : Int) + (m : Int) * 1).toNat = i + m := by omega
    rw [this]
  rw [e]
  have := pick_run xs i k
  rw [List.filterMap_map] at this
  have e2 : ((fun x => xs[x]?) ∘ fun x => i + x) = fun m => xs[i + m]? := rfl
  rw [e2] at this
  rw [this]

theorem getItem_tuple_cut {t sl : Addr} {items : Array Value} {vl vu : Value} {lo hi : Option Int} {Q : Value → Shared → Prop} (ht : IsTup s.heap t items) (hs : s.heap.IsSliceOf sl vl vu .none) (pl : IsPart vl lo) (pu : IsPart vu hi)
    (hw : ¬ (sIx items.size 0 lo = 0 ∧ sIx items.size items.size hi = items.size))
    (h : Q (.ref s.heap.objs.size) { s with heap := s.heap.push { cls := .type "tuple", data := .seq ((items.toList.drop (sIx items.size 0 lo)).take (sIx items.size items.size hi - sIx items.size 0 lo)).toArray } })
    (hsz : items.size ≤ sizeLine) : wpAny (model prog w) A (getItem (.ref t) (.ref sl)) Q E s := by
  have htake : sizeOk (.seq ((items.toList.drop (sIx items.size 0 lo)).take (sIx items.size items.size hi - sIx items.size 0 lo)).toArray) := by
    show ((items.toList.drop (sIx items.size 0 lo)).take (sIx items.size items.size hi - sIx items.size 0 lo)).toArray.size ≤ sizeLine
    rw [List.size_toArray, List.length_take, List.length_drop, Array.length_toList]
    omega
  have hj : sIx items.size items.size hi ≤ items.size := sIx_le _ _ (Nat.le_refl _) hi
  obtain ⟨os, hos, hcs, hds⟩ := id hs
  have hTs : s.TypeIs (.ref sl) "slice" := ⟨os, hos, hcs⟩
  unfold getItem
  try with_reducible refine wpAny_holding ?_
  first | refine wpAny_bind (wpAny_pure ?_) | skip
  refine wpAny_bind (wpAny_sequenceKey ht.typeIs (by decide) ?_)
  refine wpAny_bind (wpAny_callSpecial?_slot (name := Str.ofString "__getitem__") ht.typeIs PyProof.Rows.slot_tuple_getitem
    (wpAny_call_entry PyProof.Rows.slot_tuple_getitem ht.typeIs entry_tuple_getitem ?_ (args_tuple_getitem _ _)))
  show wpAny _ _ (Builtin.Tuple.tupleItemsOf (.ref t) >>= _) _ _ s
  refine wpAny_bind (tupleItemsOf_ ht ?_)
  refine wpAny_bind (wpAny_typeOf hTs ?_)
  rw [if_pos (by decide)]
  refine wpAny_bind (sliceApplied_gen hs pl pu ?_)
  have hno : ¬ ((((sIx items.size 0 lo : Nat) : Int) == 0 && (1 : Int) == 1 && (sIx items.size items.size hi - sIx items.size 0 lo) == items.size) = true) := by
    intro q
    rw [Bool.and_eq_true, Bool.and_eq_true] at q
    have q1 : ((sIx items.size 0 lo : Nat) : Int) = 0 := eq_of_beq q.1.1
    have q2 : sIx items.size items.size hi - sIx items.size 0 lo = items.size := eq_of_beq q.2
    exact hw ⟨by omega, by omega⟩
  show wpAny _ _ (if (((sIx items.size 0 lo : Nat) : Int) == 0 && (1 : Int) == 1 && (sIx items.size items.size hi - sIx items.size 0 lo) == items.size) = true then _ else _) _ _ s
  rw [if_neg hno, pick_gen]
  first
    | exact wpAny_bind (m := Builtin.Tuple.tupleExact _) (wpAny_newObj_type (wpAny_pure ⟨_, rfl, wpAny_pure h⟩) htake)
    | exact wpAny_bind (m := Builtin.Tuple.tupleExact _) (wpAny_newObj_type (wpAny_bind (wpAny_pure (wpAny_pure ⟨_, rfl, wpAny_pure h⟩))) htake)
    | exact wpAny_bind (wpAny_bind (m := Builtin.Tuple.tupleExact _) (wpAny_newObj_type (wpAny_pure (wpAny_pure ⟨_, rfl, wpAny_pure h⟩)) htake))
    | exact wpAny_bind (wpAny_bind (m := Builtin.Tuple.tupleExact _) (wpAny_newObj_type (wpAny_pure ⟨_, rfl, wpAny_pure h⟩) htake))
end
end HT

namespace L2
open PySem PySem.Spec PyProof.Rows

/-! ### the parts of a slice -/
abbrev TO := St → Hp → (Option Int → Hp → Prop) → Prop
/-- a slice's part (left out, or an int) -/
def PO (X : Cx) (e : Option Expr) (t : TO) : Prop :=
  ∀ (pins : List (Addr × Obj)) (s : Shared) (σ : St) (H : Hp) (Q : Option Int → Hp → Prop), Inv X pins σ H s → t σ H Q →
    wpAny (model X.prog X.w) X.A (evalPart e X.env) (fun u s' => ∃ o H', Inv X pins σ H' s' ∧ IsPart u o ∧ Q o H') X.xe s
def tNoPart : TO := fun _ H Q => Q none H
def tPart (t : TE) : TO := fun σ H Q => t σ H fun x H1 => ∃ i, x = .int i ∧ Q (some i) H1

theorem intsAre_of {ns : List Int} : ∀ {us : List Value}, Vals (ns.map V.int) us → IntsAre us ns := by
  induction ns with
  | nil => intro us r; rw [List.map_nil] at r; cases r; exact .nil
  | cons n ns ih =>
    intro us r
    rw [List.map_cons] at r
    cases r with
    | cons r1 r2 =>
      obtain ⟨t, e⟩ := r1
      subst e
      exact .cons n t (ih r2)

section
variable {X : Cx} {e : Expr} {te : TE} {lo hi : Option Expr} {tl th : TO} {pos p2 : Pos}

theorem po_none : PO X none tNoPart := by
  intro pins s σ H Q I h
  rw [evalPart_none]
  exact wpAny_pure ⟨none, H, I, .none, h⟩
theorem po_some (h : PE X e te) : PO X (some e) (tPart te) := by
  intro pins s σ H Q I hw
  rw [evalPart_some]
  refine thn (h pins s σ H _ I hw) fun u s1 ⟨x, H1, I1, r1, q1⟩ => ?_
  obtain ⟨i, rfl, q⟩ := q1
  obtain ⟨t, rfl⟩ := r1
  exact ⟨some i, H1, I1, .int i t, q⟩

/-- what a slice of a value is, by values: the slice object stands at sl -/
def SlR (X : Cx) (r : V → Option Int → Option Int → Hp → VK → Prop) : Prop :=
  ∀ (pins : List (Addr × Obj)) (s : Shared) (σ : St) (H : Hp) (x : V) (v vl vu : Value) (lo hi : Option Int) (sl : Addr) (Q : VK), Inv X pins σ H s → RelV x v → s.heap.IsSliceOf sl vl vu .none → IsPart vl lo → IsPart vu hi → r x lo hi H Q →
    ∃ T id, typeLookup (.type T) "__getitem__" = pure (some (.builtin id)) ∧ s.TypeIs v T ∧ wpAny (model X.prog X.w) X.A (getItem v (.ref sl)) (EP X pins σ Q) X.xe s
theorem SlR.or {r r' : V → Option Int → Option Int → Hp → VK → Prop} (h : SlR X r) (h' : SlR X r') : SlR X (fun x lo hi H Q => r x lo hi H Q ∨ r' x lo hi H Q) := by
  intro pins s σ H x v vl vu lo hi sl Q I rx hs pl pu q
  rcases q with q | q
  · exact h pins s σ H x v vl vu lo hi sl Q I rx hs pl pu q
  · exact h' pins s σ H x v vl vu lo hi sl Q I rx hs pl pu q
def tSl (r : V → Option Int → Option Int → Hp → VK → Prop) (te : TE) (tl th : TO) : TE := fun σ H Q => te σ H fun x H1 => tl σ H1 fun l H2 => th σ H2 fun u H3 => r x l u H3 Q
/-- a[lo:hi], any a -/
theorem pe_slice {r : V → Option Int → Option Int → Hp → VK → Prop} (hr : SlR X r) (he : PE X e te) (hl : PO X lo tl) (hu : PO X hi th) : PE X (.Subscript e (.Slice lo hi none p2) pos) (tSl r te tl th) := by
  intro pins s σ H Q I h
  refine Subscript_ (thn (he pins s σ H _ I h) fun v s1 ⟨x, H1, I1, r1, q1⟩ => ?_)
  refine wpAny_Slice (thn (hl pins s1 σ H1 _ I1 q1) fun vl s2 ⟨l, H2, I2, pl, q2⟩ => thn (hu pins s2 σ H2 _ I2 q2) fun vu s3 ⟨u, H3, I3, pu, q3⟩ => ?_)
  rw [evalPart_none]
  refine wpAny_pure ?_
  have I4 : Inv X pins σ H3 { s3 with heap := s3.heap.push { cls := .type "slice", data := .fields #[vl, vu, .none] } } := I3.kept (t' := s3.toks) fun b ob q => Heap.get?_push_of_some _ q
  obtain ⟨T, id, hT, ht, hg⟩ := hr pins { s3 with heap := s3.heap.push { cls := .type "slice", data := .fields #[vl, vu, .none] } } σ H3 x v vl vu l u s3.heap.objs.size Q I4 r1 (Heap.IsSliceOf.new ..) pl pu q3
  show wpAny (model X.prog X.w) X.A (subscriptTail e (.Slice lo hi none p2) v (.ref s3.heap.objs.size)) (EP X pins σ Q) X.xe { s3 with heap := s3.heap.push { cls := .type "slice", data := .fields #[vl, vu, .none] } }
  exact tail_any (ops := [.ref s3.heap.objs.size, v]) ht hT hg (by with_unfolding_all rfl)

/-- the items of xs[lo:hi] -/
def cutV (xs : List V) (lo hi : Option Int) : List V := (xs.drop (HT.sIx xs.length 0 lo)).take (HT.sIx xs.length xs.length hi - HT.sIx xs.length 0 lo)
theorem cutV_length (xs : List V) (lo hi : Option Int) : (cutV xs lo hi).length ≤ xs.length := by
  unfold cutV
  rw [List.length_take, List.length_drop]
  omega
/-- t[lo:hi], not the whole of it (the whole would be t itself) -/
def rSlT (K : PySem.W.Frag) : V → Option Int → Option Int → Hp → VK → Prop := fun x lo hi H Q => ∃ a xs, x = .ref a ∧ SqT K H a xs ∧
  ¬ (HT.sIx xs.length 0 lo = 0 ∧ HT.sIx xs.length xs.length hi = xs.length) ∧ ∀ p, H p = none → Q (.ref p) (upd H p (.tup (cutV xs lo hi)))
theorem sl_tup : SlR X (rSlT X.K) := by
  intro pins s σ H x v vl vu lo hi sl Q I rx hs pl pu h
  obtain ⟨a, xs, rfl, hx, hw, q⟩ := h
  cases rx
  obtain ⟨its, r, ht, hz⟩ := I.tuple hx
  have hlen : its.toArray.size = xs.length := by rw [List.size_toArray]; exact r.length.symm
  refine ⟨"tuple", _, PyProof.Rows.slot_tuple_getitem.lookup, ht.typeIs, ?_⟩
  refine HT.getItem_tuple_cut ht hs pl pu (by rw [hlen]; exact hw) ?_ (by rw [hlen]; exact hz)
  rw [hlen]
  refine ⟨.ref s.heap.objs.size, _, I.laid (t' := s.toks) (o := .tup (cutV xs lo hi)) (fun b ob q => Heap.get?_push_of_some _ q) (Nat.le_refl _) ?_, rfl, q _ (I.hok.fresh (Nat.le_refl _))⟩
  exact ⟨Nat.le_trans (cutV_length xs lo hi) hz, _, (r.drop (HT.sIx xs.length 0 lo)).take (HT.sIx xs.length xs.length hi - HT.sIx xs.length 0 lo), IsTup.new _ _⟩

/-! ### t < u, t + u -/
def rLtT (K : PySem.W.Frag) : R2 := fun x y H Q => ∃ a b ns ms, x = .ref a ∧ y = .ref b ∧ SqT K H a (ns.map V.int) ∧ SqT K H b (ms.map V.int) ∧ Q (.bl (HT.lexLt ns ms)) H
theorem op_ltT (hu : X.A.units < cLine) : OpR X (compareOp .Lt) (rLtT X.K) := by
  intro pins s σ H x y v u Q I rx ry h
  obtain ⟨a, b, ns, ms, rfl, rfl, ha, hb, q⟩ := h
  cases rx
  cases ry
  obtain ⟨its, r1, p1, _⟩ := I.tuple ha
  obtain ⟨its2, r2, p2, _⟩ := I.tuple hb
  have i1 : IntsAre its.toArray.toList ns := intsAre_of r1
  have i2 : IntsAre its2.toArray.toList ms := intsAre_of r2
  exact HT.lt_tupInts p1 p2 i1 i2 hu ⟨.bl (HT.lexLt ns ms), H, I, rfl, q⟩
/-- t + u, t not empty: u empty gives t itself -/
def rCatT (K : PySem.W.Frag) : R2 := fun x y H Q => ∃ a b xs ys, x = .ref a ∧ y = .ref b ∧ SqT K H a xs ∧ SqT K H b ys ∧ xs ≠ [] ∧ xs.length + ys.length ≤ sizeLine ∧
  (ys = [] → Q (.ref a) H) ∧ (ys ≠ [] → ∀ p, H p = none → Q (.ref p) (upd H p (.tup (xs ++ ys))))
theorem Vals.nil_iff {xs : List V} {us : List Value} (r : Vals xs us) : us = [] ↔ xs = [] := by
  cases r with
  | nil => simp
  | cons _ _ => simp
theorem op_catT : OpR X (binaryOp .Add) (rCatT X.K) := by
  intro pins s σ H x y v u Q I rx ry h
  obtain ⟨a, b, xs, ys, rfl, rfl, ha, hb, hx, hz, q1, q2⟩ := h
  cases rx
  cases ry
  obtain ⟨its, r1, p1, _⟩ := I.tuple ha
  obtain ⟨its2, r2, p2, _⟩ := I.tuple hb
  refine HT.cat_tup p1 p2 (fun z => hx (r1.nil_iff.mp z)) (fun z => ⟨.ref a, H, I, rfl, q1 (r2.nil_iff.mp z)⟩) (fun z => ?_) (by rw [← r1.length, ← r2.length]; exact hz)
  refine ⟨.ref s.heap.objs.size, _, I.laid (t' := s.toks) (o := .tup (xs ++ ys)) (fun b ob q => Heap.get?_push_of_some _ q) (Nat.le_refl _) ?_, rfl, q2 (fun w => z (r2.nil_iff.mpr w)) _ (I.hok.fresh (Nat.le_refl _))⟩
  exact ⟨by rw [List.length_append]; exact hz, _, r1.append r2, IsTup.new _ _⟩
/-- tuple(t) -/
theorem call_tupleT : CallR X (.type "tuple") (fun xs H Q => ∃ a ys, xs = [.ref a] ∧ SqT X.K H a ys ∧ Q (.ref a) H) := by
  intro pins s σ H xs us Q I r h
  obtain ⟨a, ys, rfl, ha, q⟩ := h
  obtain ⟨u, rfl, ru⟩ := vals1 r
  cases ru
  obtain ⟨its, _, p1, _⟩ := I.tuple ha
  exact call_tuple_same (items := its.toArray) p1 ⟨.ref a, H, I, rfl, q⟩
end
end L2

namespace L2
open PySem PySem.Spec PyProof.Rows

/-! ### places -/
/-- the place that an index of any sign means -/
def ixN (n : Nat) (i : Int) : Option Nat := if 0 ≤ i then (if i < n then some i.toNat else none) else if -(n : Int) ≤ i then some (i + n).toNat else none
def atI {α : Type} (xs : List α) (i : Int) : Option α := (ixN xs.length i).bind fun j => xs[j]?
theorem ixN_seq {n : Nat} {i : Int} {j : Nat} (h : ixN n i = some j) : seqIndex? i n = some j ∧ j < n ∧ -(n : Int) ≤ i ∧ i < n := by
  unfold ixN at h
  by_cases h0 : 0 ≤ i
  · rw [if_pos h0] at h
    by_cases h1 : i < n
    · rw [if_pos h1] at h
      have e : i.toNat = j := Option.some.inj h
      exact ⟨by rw [seqIndex_of h0 h1, e], by omega, by omega, h1⟩
    · rw [if_neg h1] at h; cases h
  · rw [if_neg h0] at h
    by_cases h1 : -(n : Int) ≤ i
    · rw [if_pos h1] at h
      have e : (i + n).toNat = j := Option.some.inj h
      exact ⟨by rw [seqIndex_neg (by omega) h1, e], by omega, h1, by omega⟩
    · rw [if_neg h1] at h; cases h
theorem atI_get {α : Type} {xs : List α} {i : Int} {v : α} (h : atI xs i = some v) : ∃ j, seqIndex? i xs.length = some j ∧ xs[j]? = some v ∧ j < xs.length ∧ -(xs.length : Int) ≤ i ∧ i < xs.length := by
  unfold atI at h
  cases e : ixN xs.length i with
  | none => rw [e] at h; cases h
  | some j =>
    rw [e] at h
    obtain ⟨h1, h2, h3, h4⟩ := ixN_seq e
    exact ⟨j, h1, h, h2, h3, h4⟩
theorem atI_nat {α : Type} {xs : List α} {j : Nat} {v : α} (h : xs[j]? = some v) : atI xs (j : Int) = some v := by
  have hj : j < xs.length := (List.getElem?_eq_some_iff.mp h).1
  have e : ixN xs.length (j : Int) = some j := by
    unfold ixN
    rw [if_pos (by omega), if_pos (by omega)]; simp
  unfold atI; rw [e]; exact h
theorem atI_last {α : Type} (xs : List α) (v : α) : atI (xs ++ [v]) (-1) = some v := by
  have hl : (xs ++ [v]).length = xs.length + 1 := by simp
  have e : ixN (xs ++ [v]).length (-1) = some xs.length := by
    unfold ixN
    rw [hl, if_neg (by decide), if_pos (by omega)]
    congr 1
    omega
  unfold atI
  rw [e]
  show (xs ++ [v])[xs.length]? = some v
  simp

/-! ### what may be subscripted -/
/-- what stands as an index of a plain subscript -/
def PlainIx (b : Expr) : Prop := ∀ o i, subscripted b false o i = operate [o, i] (getItem o i)
/-- a subscript by values -/
def IxR (X : Cx) (r : R2) : Prop :=
  ∀ (value slice : Expr) (pins : List (Addr × Obj)) (s : Shared) (σ : St) (H : Hp) (x y : V) (v u : Value) (Q : VK), Inv X pins σ H s → RelV x v → RelV y u → r x y H Q →
    subscripted slice false v u = operate [v, u] (getItem v u) → wpAny (model X.prog X.w) X.A (subscriptTail value slice v u) (EP X pins σ Q) X.xe s
/-- a call of a builtin's method by values: the receiver, the arguments -/
def MtR (X : Cx) (id : String) (r : V → List V → Hp → VK → Prop) : Prop :=
  ∀ (pins : List (Addr × Obj)) (s : Shared) (σ : St) (H : Hp) (x : V) (xs : List V) (v : Value) (us : List Value) (Q : VK), Inv X pins σ H s → RelV x v → Vals xs us → r x xs H Q →
    wpAny (model X.prog X.w) X.A (call (.builtin id) (v :: us)) (EP X pins σ Q) X.xe s
section
variable {X : Cx} {a b : Expr} {ta tb : TE} {pos : Pos}
theorem IxR.or {r r' : R2} (h : IxR X r) (h' : IxR X r') : IxR X (fun x y H Q => r x y H Q ∨ r' x y H Q) := by
  intro value slice pins s σ H x y v u Q I rx ry q hs
  rcases q with q | q
  · exact h value slice pins s σ H x y v u Q I rx ry q hs
  · exact h' value slice pins s σ H x y v u Q I rx ry q hs
theorem MtR.or {id : String} {r r' : V → List V → Hp → VK → Prop} (h : MtR X id r) (h' : MtR X id r') : MtR X id (fun x xs H Q => r x xs H Q ∨ r' x xs H Q) := by
  intro pins s σ H x xs v us Q I rx rs q
  rcases q with q | q
  · exact h pins s σ H x xs v us Q I rx rs q
  · exact h' pins s σ H x xs v us Q I rx rs q
/-- a[b] -/
theorem pe_ix {r : R2} (hr : IxR X r) (ha : PE X a ta) (hb : PE X b tb) (hs : PlainIx b) : PE X (.Subscript a b pos) (tOp r ta tb) := by
  intro pins s σ H Q I h
  exact Subscript_ (binT ha hb I h fun v u s2 x y H2 I2 rx ry q => hr a b pins s2 σ H2 x y v u Q I2 rx ry q (hs _ _))

def rIxL (K : PySem.W.Frag) : R2 := fun x y H Q => ∃ p xs i v, x = .ref p ∧ y = .int i ∧ SqL K H p xs ∧ atI xs i = some v ∧ Q v H
def rIxT (K : PySem.W.Frag) : R2 := fun x y H Q => ∃ p xs i v, x = .ref p ∧ y = .int i ∧ SqT K H p xs ∧ atI xs i = some v ∧ Q v H
def rIxS : R2 := fun x y H Q => ∃ z i c, x = .str z ∧ y = .int i ∧ z.length ≤ sizeLine ∧ atI z.cps.toList i = some c ∧ Q (.str ⟨#[c]⟩) H
theorem ix_list : IxR X (rIxL X.K) := by
  intro value slice pins s σ H x y v u Q I rx ry h hs
  obtain ⟨p, xs, i, z, rfl, rfl, hq, he, q⟩ := h
  cases rx
  obtain ⟨t, rfl⟩ := ry
  obtain ⟨its, r, pl, hz⟩ := I.list hq
  obtain ⟨j, h1, h2, h3, h4, h5⟩ := atI_get he
  obtain ⟨w, ew, rw'⟩ := r.get h2
  have hl := r.length
  have hn := line63
  have fin : EP X pins σ Q w s := ⟨z, H, I, rw', q⟩
  by_cases h0 : 0 ≤ i
  · have hj : i.toNat = j := by
      rw [seqIndex_of h0 h5] at h1
      exact Option.some.inj h1
    exact item_listR pl.isList h0 (by omega) (by rw [hj]; simpa using ew) fin hs
  · have hj : (i + (its.toArray.size : Int)).toNat = j := by
      rw [seqIndex_neg (by omega) h4] at h1
      rw [List.size_toArray, ← hl]
      exact Option.some.inj h1
    exact subscriptTail_builtinR (x := w) pl.isList.typeIs slot_list_getitem.lookup
      (wpAny_getItem_list_neg (Q := fun r s' => r = w ∧ EP X pins σ Q r s') pl.isList (by omega) (by rw [List.size_toArray] <;> omega) (by omega) (by rw [hj]; simpa using ew) ⟨rfl, fin⟩) hs
theorem ix_tup : IxR X (rIxT X.K) := by
  intro value slice pins s σ H x y v u Q I rx ry h hs
  obtain ⟨p, xs, i, z, rfl, rfl, hq, he, q⟩ := h
  cases rx
  obtain ⟨t, rfl⟩ := ry
  obtain ⟨its, r, pl, hz⟩ := I.tuple hq
  obtain ⟨j, h1, h2, h3, h4, h5⟩ := atI_get he
  obtain ⟨w, ew, rw'⟩ := r.get h2
  have hl := r.length
  have hn := line63
  have fin : EP X pins σ Q w s := ⟨z, H, I, rw', q⟩
  exact subscriptTail_builtinR (x := w) pl.typeIs slot_tuple_getitem.lookup
    (getItem_tuple (j := j) (Q := fun r s' => r = w ∧ EP X pins σ Q r s') pl (by omega) (by omega) (by rw [List.size_toArray, ← hl]; exact h1) (by simpa using ew) ⟨rfl, fin⟩) hs
theorem ix_str : IxR X rIxS := by
  intro value slice pins s σ H x y v u Q I rx ry h hs
  obtain ⟨z, i, c, rfl, rfl, hz, he, q⟩ := h
  obtain ⟨t, rfl⟩ := rx
  obtain ⟨t', rfl⟩ := ry
  obtain ⟨j, h1, h2, h3, h4, h5⟩ := atI_get he
  have hl : z.cps.toList.length = z.length := by simp [Str.length]
  rw [hl] at h1 h4 h5
  have hn := line63
  exact tail_any (typeIs_str s z t) slot_str_getitem.lookup (getItem_str (c := c) (by
    have e1 : decide (i < -(2 ^ 63 : Int)) = false := decide_eq_false (by omega)
    have e2 : decide (i ≥ 2 ^ 63) = false := decide_eq_false (by omega)
    rw [e1, e2, Bool.or_false]) (by rw [h1]; simpa using h2) ⟨.str ⟨#[c]⟩, H, I.tok _, ⟨_, rfl⟩, q⟩) hs
/-- list, tuple or str -/
def rIx (K : PySem.W.Frag) : R2 := fun x y H Q => rIxL K x y H Q ∨ rIxT K x y H Q ∨ rIxS x y H Q
theorem ix_seq : IxR X (rIx X.K) := ix_list.or (ix_tup.or ix_str)

/-! ### xs[i] = v, any sign -/
/-- the list's object behind a store -/
theorem mapSeq_set (its : List Value) (n j : Nat) (u : Value) : Obj.mapSeq (·.setIfInBounds j u) { cls := .type "list", data := .seq its.toArray n } = { cls := .type "list", data := .seq (its.set j u).toArray n } := by
  simp [Obj.mapSeq]
theorem Inv.lst {pins : List (Addr × Obj)} {σ : St} {H : Hp} {s : Shared} {p : Addr} {xs : List V} (I : Inv X pins σ H s) (h : H p = some (.lst xs)) :
    ∃ (its : List Value) (n : Nat), Vals xs its ∧ s.heap.get? p = some { cls := .type "list", data := .seq its.toArray n } ∧ xs.length ≤ sizeLine := by
  obtain ⟨z, its, n, r, e⟩ := I.hok p _ h
  exact ⟨its, n, r, e, z⟩
/-- the list at p is written by an update of its object -/
theorem Inv.lstUpd {pins : List (Addr × Obj)} {σ : St} {H : Hp} {s : Shared} {p : Addr} {xs ys : List V} {its its' : List Value} {n n' : Nat} {f : Obj → Obj} (I : Inv X pins σ H s) (h : H p = some (.lst xs))
    (ho : s.heap.get? p = some { cls := .type "list", data := .seq its.toArray n }) (hf : f { cls := .type "list", data := .seq its.toArray n } = { cls := .type "list", data := .seq its'.toArray n' }) (r : Vals ys its') (hz : ys.length ≤ sizeLine) (t : Nat) :
    Inv X pins σ (upd H p (.lst ys)) { s with heap := s.heap.update p f, toks := t } := by
  have e : (s.heap.update p f).get? p = some { cls := .type "list", data := .seq its'.toArray n' } := by
    rw [Heap.get?_update_self f ho (by rw [hf] <;> rfl), hf]
  refine I.write (x := p) (e := p) (by rw [h]; trivial) (.inl rfl) (fun b u hb q => (Heap.get?_update_other _ _ (Ne.symm hb)).trans q) ⟨_, e⟩ ?_
  exact ⟨hz, its', n', r, e⟩
def rSetL : V → V → V → Hp → (Hp → Prop) → Prop := fun o i v H Q => ∃ p xs k j, o = .ref p ∧ i = .int k ∧ H p = some (.lst xs) ∧ ixN xs.length k = some j ∧ Q (upd H p (.lst (xs.set j v)))
theorem set_list : PSet X rSetL := by
  intro pins s σ H o i v ov iv u Q I ro ri rv h
  obtain ⟨p, xs, k, j, rfl, rfl, hp, hj, q⟩ := h
  cases ro
  obtain ⟨t, rfl⟩ := ri
  obtain ⟨its, n, r, ho, hz⟩ := I.lst hp
  obtain ⟨h1, h2, h3, h4⟩ := ixN_seq hj
  have hl := r.length
  have hn := line63
  have I' : Inv X pins σ (upd H p (.lst (xs.set j v))) { s with heap := s.heap.update p (Obj.mapSeq (·.setIfInBounds j u)) } :=
    I.lstUpd hp ho (mapSeq_set its n j u) (r.set rv j) (by rw [List.length_set]; exact hz) s.toks
  by_cases h0 : 0 ≤ k
  · have hk : k.toNat = j := by
      rw [seqIndex_of h0 h4] at h1
      exact Option.some.inj h1
    exact PySem.W.ki_setAt ho h0 (by omega) (by rw [List.size_toArray, ← hl]; exact h4) (by rw [hk]; exact ⟨_, I', q⟩)
  · have hk : (k + (its.toArray.size : Int)).toNat = j := by
      rw [seqIndex_neg (by omega) h3] at h1
      rw [List.size_toArray, ← hl]
      exact Option.some.inj h1
    exact PySem.W.ki_setBack ho (by omega) (by rw [List.size_toArray, ← hl]; exact h3) (by omega) (by rw [hk]; exact ⟨_, I', q⟩)

/-! ### slices -/
theorem slice_bounds (lo hi : Option Int) (n : Nat) : (sliceBounds lo hi none n).1 = ((HT.sIx n 0 lo : Nat) : Int) ∧ (sliceBounds lo hi none n).2.1 = ((HT.sIx n n hi : Nat) : Int) ∧ (sliceBounds lo hi none n).2.2 = 1 := by
  refine ⟨?_, ?_, rfl⟩
  · cases lo with
    | none => simp [sliceBounds, HT.sIx]
    | some i =>
      simp only [sliceBounds, HT.sIx, Option.getD_none, show (1 : Int) > 0 by decide, if_true]
      by_cases h : i < 0
      · simp only [h, if_true] <;> omega
      · simp only [h, if_false] <;> omega
  · cases hi with
    | none => simp [sliceBounds, HT.sIx]
    | some i =>
      simp only [sliceBounds, HT.sIx, Option.getD_none, show (1 : Int) > 0 by decide, if_true]
      by_cases h : i < 0
      · simp only [h, if_true] <;> omega
      · simp only [h, if_false] <;> omega
theorem slicePick_cut (its : List Value) (lo hi : Option Int) : slicePick its.toArray lo hi none = ((its.drop (HT.sIx its.length 0 lo)).take (HT.sIx its.length its.length hi - HT.sIx its.length 0 lo)).toArray := by
  obtain ⟨h1, h2, h3⟩ := slice_bounds lo hi its.toArray.size
  unfold slicePick
  rw [h1, h2, h3]
  simp only [sliceRange_one, pick_run, List.size_toArray] <;> rfl
/-- xs[lo:hi] of a list: a new list -/
def rSlL (K : PySem.W.Frag) : V → Option Int → Option Int → Hp → VK → Prop := fun x lo hi H Q => ∃ a xs, x = .ref a ∧ SqL K H a xs ∧ ∀ p, H p = none → Q (.ref p) (upd H p (.lst (cutV xs lo hi)))
theorem sl_list : SlR X (rSlL X.K) := by
  intro pins s σ H x v vl vu lo hi sl Q I rx hs pl pu h
  obtain ⟨a, xs, rfl, hx, q⟩ := h
  cases rx
  obtain ⟨its, r, ht, hz⟩ := I.list hx
  have hlen := r.length
  refine ⟨"list", _, slot_list_getitem.lookup, ht.isList.typeIs, ?_⟩
  refine wpAny_getItem_list_slice ht.isList hs pl pu .none (by simp) ?_ (by rw [List.size_toArray] <;> omega)
  rw [slicePick_cut, ← hlen]
  refine ⟨.ref s.heap.objs.size, _, I.laid (t' := s.toks) (o := .lst (cutV xs lo hi)) (fun b ob q => Heap.get?_push_of_some _ q) (Nat.le_refl _) ?_, rfl, q _ (I.hok.fresh (Nat.le_refl _))⟩
  exact ⟨Nat.le_trans (cutV_length xs lo hi) hz, _, 0, (r.drop (HT.sIx xs.length 0 lo)).take (HT.sIx xs.length xs.length hi - HT.sIx xs.length 0 lo), Heap.get?_push_size _ rfl⟩

/-! ### in, not in: flat items -/
def flatV : V → Bool
  | .non => true
  | .bl _ => true
  | .int _ => true
  | .str _ => true
  | _ => false
/-- == of flat values -/
def eqV : V → V → Bool
  | .non, .non => true
  | .bl a, .bl b => a == b
  | .bl a, .int b => (if a then 1 else 0) == b
  | .int a, .bl b => a == (if b then 1 else 0)
  | .int a, .int b => a == b
  | .str a, .str b => a == b
  | _, _ => false
theorem eqAt_V {A : Around} {s : Shared} {y x : V} {u v : Value} (ry : RelV y u) (rx : RelV x v) (fy : flatV y = true) (fx : flatV x = true) : SeqAt.EqAt A s u v (eqV y x) := by
  cases y with
  | non =>
    cases ry
    cases x with
    | non => cases rx; exact SeqAt.EqAt.same _
    | bl b => cases rx; exact SeqAt.EqAt.none_bool b
    | int b => obtain ⟨t, rfl⟩ := rx; exact SeqAt.EqAt.none_int b t
    | str b => obtain ⟨t, rfl⟩ := rx; exact SeqAt.EqAt.none_str b t
    | _ => exact absurd (show false = true from fx) Bool.false_ne_true
  | bl a =>
    cases ry
    cases x with
    | non => cases rx; exact SeqAt.EqAt.bool_none a
    | bl b => cases rx; exact SeqAt.EqAt.bool_bool a b
    | int b => obtain ⟨t, rfl⟩ := rx; exact SeqAt.EqAt.bool_int a b t
    | str b => obtain ⟨t, rfl⟩ := rx; exact SeqAt.EqAt.bool_str a b t
    | _ => exact absurd (show false = true from fx) Bool.false_ne_true
  | int a =>
    obtain ⟨t', rfl⟩ := ry
    cases x with
    | non => cases rx; exact SeqAt.EqAt.int_none a t'
    | bl b => cases rx; exact SeqAt.EqAt.int_bool a t' b
    | int b => obtain ⟨t, rfl⟩ := rx; exact SeqAt.EqAt.int_int a t' b t
    | str b => obtain ⟨t, rfl⟩ := rx; exact SeqAt.EqAt.int_str a t' b t
    | _ => exact absurd (show false = true from fx) Bool.false_ne_true
  | str a =>
    obtain ⟨t', rfl⟩ := ry
    cases x with
    | non => cases rx; exact SeqAt.EqAt.str_none a t'
    | bl b => cases rx; exact SeqAt.EqAt.str_bool a t' b
    | int b => obtain ⟨t, rfl⟩ := rx; exact SeqAt.EqAt.str_int a t' b t
    | str b => obtain ⟨t, rfl⟩ := rx; exact SeqAt.EqAt.str_str a t' b t
    | _ => exact absurd (show false = true from fx) Bool.false_ne_true
  | _ => exact absurd (show false = true from fy) Bool.false_ne_true
/-- the items' answers, read off the values (a value's own answer does not lean on its token) -/
def eqU (x : V) (u : Value) : Bool := match u with
  | .none => eqV .non x
  | .bool b => eqV (.bl b) x
  | .int i _ => eqV (.int i) x
  | .str z _ => eqV (.str z) x
  | _ => false
theorem eqU_of {x y : V} {u : Value} (r : RelV y u) (f : flatV y = true) : eqU x u = eqV y x := by
  cases y with
  | non => cases r; rfl
  | bl b => cases r; rfl
  | int i => obtain ⟨t, rfl⟩ := r; rfl
  | str z => obtain ⟨t, rfl⟩ := r; rfl
  | _ => exact absurd (show false = true from f) Bool.false_ne_true
theorem any_eqU {x : V} : ∀ {xs : List V} {us : List Value}, Vals xs us → xs.all flatV = true → us.any (eqU x) = xs.any fun y => eqV y x
  | _, _, .nil, _ => rfl
  | y :: xs, u :: us, .cons r t, f => by
    rw [List.all_cons, Bool.and_eq_true] at f
    rw [List.any_cons, List.any_cons, eqU_of r f.1, any_eqU t f.2]
theorem mem_eqAt {A : Around} {s : Shared} {x : V} {v : Value} (rx : RelV x v) (fx : flatV x = true) : ∀ {xs : List V} {us : List Value}, Vals xs us → xs.all flatV = true → ∀ u ∈ us, SeqAt.EqAt A s u v (eqU x u)
  | _, _, .nil, _ => fun u hu => by cases hu
  | y :: xs, u :: us, .cons r t, f => fun u' hu => by
    rw [List.all_cons, Bool.and_eq_true] at f
    rcases List.mem_cons.mp hu with rfl | hu
    · rw [eqU_of r f.1]; exact eqAt_V r rx f.1 fx
    · exact mem_eqAt rx fx t f.2 u' hu
def inV (x : V) (xs : List V) : Bool := xs.any fun y => eqV y x
/-- x in a list or tuple of flat items -/
def rIn (K : PySem.W.Frag) (neg : Bool) : R2 := fun x y H Q => ∃ p xs, y = .ref p ∧ (SqL K H p xs ∨ SqT K H p xs) ∧ flatV x = true ∧ xs.all flatV = true ∧ Q (.bl (if neg then !inV x xs else inV x xs)) H
theorem op_in_seq : OpR X (compareOp .In) (rIn X.K false) := by
  intro pins s σ H x y v u Q I rx ry h
  obtain ⟨p, xs, rfl, hq, fx, fs, q⟩ := h
  cases ry
  rcases hq with hq | hq
  · obtain ⟨its, r, pl, hz⟩ := I.list hq
    refine SeqAt.in_listAt (eqU x) pl.isList (fun w hw => mem_eqAt rx fx r fs w (by simpa using hw)) ⟨.bl _, H, I, rfl, ?_⟩
    rw [show its.toArray.any (eqU x) = its.any (eqU x) by simp, any_eqU r fs]
    exact q
  · obtain ⟨its, r, pl, hz⟩ := I.tuple hq
    refine SeqAt.in_tupleAt (eqU x) pl (fun w hw => mem_eqAt rx fx r fs w (by simpa using hw)) ⟨.bl _, H, I, rfl, ?_⟩
    rw [show its.toArray.any (eqU x) = its.any (eqU x) by simp, any_eqU r fs]
    exact q
theorem op_notIn_seq : OpR X (compareOp .NotIn) (rIn X.K true) := by
  intro pins s σ H x y v u Q I rx ry h
  obtain ⟨p, xs, rfl, hq, fx, fs, q⟩ := h
  cases ry
  rcases hq with hq | hq
  · obtain ⟨its, r, pl, hz⟩ := I.list hq
    refine SeqAt.notIn_listAt (eqU x) pl.isList (fun w hw => mem_eqAt rx fx r fs w (by simpa using hw)) ⟨.bl _, H, I, rfl, ?_⟩
    rw [show its.toArray.any (eqU x) = its.any (eqU x) by simp, any_eqU r fs]
    exact q
  · obtain ⟨its, r, pl, hz⟩ := I.tuple hq
    refine SeqAt.notIn_tupleAt (eqU x) pl (fun w hw => mem_eqAt rx fx r fs w (by simpa using hw)) ⟨.bl _, H, I, rfl, ?_⟩
    rw [show its.toArray.any (eqU x) = its.any (eqU x) by simp, any_eqU r fs]
    exact q
theorem op_notIn_str : OpR X (compareOp .NotIn) (fun x y H Q => ∃ i j, x = .str i ∧ y = .str j ∧ Q (.bl (!(!(Builtin.Str.occurrences j i 0 j.length 1).isEmpty))) H) := by
  intro pins s σ H x y v u Q I rx ry h
  obtain ⟨i, j, rfl, rfl, q⟩ := h
  obtain ⟨t, rfl⟩ := rx
  obtain ⟨t', rfl⟩ := ry
  exact notIn_str ⟨.bl _, H, I, rfl, q⟩

/-! ### len, list(x), tuple(x) of any list or tuple that is read -/
theorem call_len_seq : CallR X (.builtin "len") (fun xs H Q => ∃ p ys, xs = [.ref p] ∧ (SqL X.K H p ys ∨ SqT X.K H p ys) ∧ Q (.int ys.length) H) := by
  intro pins s σ H xs us Q I r h
  obtain ⟨p, ys, rfl, hq, q⟩ := h
  obtain ⟨u, rfl, rx⟩ := vals1 r
  cases rx
  have hn := line63
  rcases hq with hq | hq
  · obtain ⟨its, r', pl, hz⟩ := I.list hq
    have hlen := r'.length
    exact Calls.call_len_list pl.isList (by simp only [List.size_toArray] <;> omega) ⟨.int ys.length, H, I.tok _, ⟨s.toks + 1, by rw [List.size_toArray, hlen]⟩, q⟩
  · obtain ⟨its, r', pl, hz⟩ := I.tuple hq
    have hlen := r'.length
    exact len_tuple pl (by simp only [List.size_toArray] <;> omega) ⟨.int ys.length, H, I.tok _, ⟨s.toks + 1, by rw [List.size_toArray, hlen]⟩, q⟩
theorem call_len_str : CallR X (.builtin "len") (fun xs H Q => ∃ z, xs = [.str z] ∧ z.length ≤ sizeLine ∧ Q (.int z.length) H) := by
  intro pins s σ H xs us Q I r h
  obtain ⟨z, rfl, hz, q⟩ := h
  obtain ⟨u, rfl, t, rfl⟩ := vals1 r
  have hn := line63
  exact len_str (by omega) ⟨.int z.length, H, I.tok _, ⟨_, rfl⟩, q⟩
theorem CallR.or {f : Value} {r r' : List V → Hp → VK → Prop} (h : CallR X f r) (h' : CallR X f r') : CallR X f (fun xs H Q => r xs H Q ∨ r' xs H Q) := by
  intro pins s σ H xs us Q I rs q
  rcases q with q | q
  · exact h pins s σ H xs us Q I rs q
  · exact h' pins s σ H xs us Q I rs q
theorem call_list_of : CallR X (.type "list") (fun xs H Q => ∃ p ys, xs = [.ref p] ∧ (SqL X.K H p ys ∨ SqT X.K H p ys) ∧ ∀ l, H l = none → Q (.ref l) (upd H l (.lst ys))) := by
  intro pins s σ H xs us Q I r h
  obtain ⟨p, ys, rfl, hq, q⟩ := h
  obtain ⟨u, rfl, rx⟩ := vals1 r
  cases rx
  have fin : ∀ (its : List Value), Vals ys its → ys.length ≤ sizeLine → ∀ (h' : Heap) (c' : Nat), (∀ b o', s.heap.get? b = some o' → h'.get? b = some o') →
      h'.get? s.heap.objs.size = some { cls := .type "list", dict := none, data := .seq its.toArray c', slots := #[] } → EP X pins σ Q (.ref s.heap.objs.size) { s with heap := h' } := fun its r' hz h' c' kp e =>
    ⟨.ref s.heap.objs.size, _, I.laid (t' := s.toks) kp (Nat.le_refl _) (show ObjOk X.prog X.w _ h' _ (.lst ys) from ⟨hz, its, c', r', e⟩), rfl, q _ (I.hok.fresh (Nat.le_refl _))⟩
  rcases hq with hq | hq
  · obtain ⟨its, r', pl, hz⟩ := I.list hq
    have hlen := r'.length
    obtain ⟨o, ho, hc, n, hd⟩ := pl.isList
    exact call_list_seq p (.inl rfl) ho hc hd (fun h' c' kp e => fin its r' hz h' c' kp e) (by simp only [List.size_toArray] <;> omega)
  · obtain ⟨its, r', pl, hz⟩ := I.tuple hq
    have hlen := r'.length
    obtain ⟨o, ho, hc, n, hd⟩ := pl
    exact call_list_seq p (.inr rfl) ho hc hd (fun h' c' kp e => fin its r' hz h' c' kp e) (by simp only [List.size_toArray] <;> omega)
theorem call_tuple_of : CallR X (.type "tuple") (fun xs H Q => ∃ p ys, xs = [.ref p] ∧ ((SqL X.K H p ys ∧ ∀ l, H l = none → Q (.ref l) (upd H l (.tup ys))) ∨ (SqT X.K H p ys ∧ Q (.ref p) H))) := by
  intro pins s σ H xs us Q I r h
  obtain ⟨p, ys, rfl, h⟩ := h
  obtain ⟨u, rfl, rx⟩ := vals1 r
  cases rx
  rcases h with ⟨hq, q⟩ | ⟨hq, q⟩
  · obtain ⟨its, r', pl, hz⟩ := I.list hq
    have hlen := r'.length
    refine call_tuple_list pl.isList (fun h' kp => ?_) (by simp only [List.size_toArray] <;> omega)
    have I1 : Inv X pins σ H { s with heap := h' } := I.kept (t' := s.toks) kp
    have I2 : Inv X pins σ (upd H h'.objs.size (.tup ys)) { s with heap := h'.push { cls := .type "tuple", data := .seq its.toArray } } :=
      I1.laid (t' := s.toks) (fun b o e => Heap.get?_push_of_some _ e) (Nat.le_refl _) (show ObjOk X.prog X.w _ _ _ (.tup ys) from ⟨hz, its, r', IsTup.new _ _⟩)
    exact ⟨.ref h'.objs.size, _, I2, rfl, q _ (I1.hok.fresh (Nat.le_refl _))⟩
  · obtain ⟨its, r', pl, hz⟩ := I.tuple hq
    exact call_tuple_same pl ⟨.ref p, H, I, rfl, q⟩

/-! ### the call of a builtin's method: o.m(..) -/
/-- the value is of that builtin type -/
def tyV (K : PySem.W.Frag) (T : String) (x : V) (H : Hp) : Prop := match x with
  | .str _ => T = "str"
  | .int _ => T = "int"
  | .ref p => (T = "list" ∧ ∃ xs, SqL K H p xs) ∨ (T = "tuple" ∧ ∃ o, K.lookup p = some o ∧ o.cls = .type "tuple" ∧ o.dict = none) ∨
      (T = "dict" ∧ ((∃ kvs, H p = some (.dK kvs)) ∨ ∃ kvs, H p = some (.dT kvs))) ∨ (T = "set" ∧ ∃ S n, H p = some (.set S n))
  | _ => False
theorem tyV_is {pins : List (Addr × Obj)} {σ : St} {H : Hp} {s : Shared} {T : String} {x : V} {v : Value} (I : Inv X pins σ H s) (r : RelV x v) (ty : tyV X.K T x H) :
    s.TypeIs v T ∧ ∀ a, v = .ref a → ∃ ob, s.heap.get? a = some ob ∧ ob.dict = none := by
  cases x with
  | str z =>
    obtain ⟨t, rfl⟩ := r
    cases (show T = "str" from ty)
    exact ⟨typeIs_str s z t, fun _ e => nomatch e⟩
  | int i =>
    obtain ⟨t, rfl⟩ := r
    cases (show T = "int" from ty)
    exact ⟨typeIs_int s i t, fun _ e => nomatch e⟩
  | ref p =>
    cases r
    rcases ty with ⟨rfl, xs, hq⟩ | ⟨rfl, o, hk, hc, hd⟩ | ⟨rfl, hk⟩ | ⟨rfl, S, n, hk⟩
    · obtain ⟨its, _, pl, _⟩ := I.list hq
      refine ⟨pl.isList.typeIs, fun a e => ?_⟩
      cases e
      obtain ⟨o, n, e, c, hd, _⟩ := pl
      exact ⟨o, e, hd⟩
    · refine ⟨⟨o, I.kIn p o hk, hc⟩, fun a e => ?_⟩
      cases e
      exact ⟨o, I.kIn _ o hk, hd⟩
    · have z : ∃ o, s.heap.get? p = some o ∧ o.ExactDict := by
        rcases hk with ⟨kvs, hk⟩ | ⟨kvs, hk⟩
        · obtain ⟨_, _, _, _, o, _, _, e, ex, _⟩ := I.hok p _ hk
          exact ⟨o, e, ex⟩
        · obtain ⟨_, _, _, _, o, _, _, e, ex, _⟩ := I.hok p _ hk
          exact ⟨o, e, ex⟩
      obtain ⟨o, e, ex⟩ := z
      refine ⟨⟨o, e, ex.1⟩, fun a e2 => ?_⟩
      cases e2
      exact ⟨o, e, ex.2.1⟩
    · obtain ⟨o, _, _, _, e, ex, _⟩ := I.hok p _ hk
      refine ⟨⟨o, e, ex.1⟩, fun a e2 => ?_⟩
      cases e2
      exact ⟨o, e, ex.2.1⟩
  | _ => exact False.elim ty
def tBM0 (K : PySem.W.Frag) (T : String) (r : V → List V → Hp → VK → Prop) (to : TE) : TE := fun σ H Q => to σ H fun x H1 => tyV K T x H1 ∧ r x [] H1 Q
def tBM (K : PySem.W.Frag) (T : String) (r : V → List V → Hp → VK → Prop) (to : TE) (t : TA) : TE := fun σ H Q => to σ H fun x H1 => tyV K T x H1 ∧ t σ H1 fun xs H2 => r x xs H2 Q
variable {o e : Expr} {es : List Expr} {to : TE} {t : TA} {name : Str} {apos cpos : Pos} {T id : String} {r : V → List V → Hp → VK → Prop}
theorem pe_bm0 (pa : PlainAttrs T) (slot : Slot T name id) (hty : typeOf (.builtin id) = pure (.type "method_descriptor")) (hm : MtR X id r) (ho : PE X o to)
    (hbase : attributeBase o name X.env (eval o X.env) = eval o X.env := by rfl) (hline : (apos.endLine == cpos.line) = true := by rfl) : PE X (.Call (.Attribute o name apos) [] [] cpos) (tBM0 X.K T r to) := by
  intro pins s σ H Q I h
  refine wpAny_Call_method0_late hbase hline (thn (ho pins s σ H _ I h) fun v s1 ⟨x, H1, I1, r1, ty, q1⟩ => ?_)
  obtain ⟨h1, h2⟩ := tyV_is I1 r1 ty
  exact ⟨T, id, pa, slot, hty, h1, h2, Calls.callWith_builtin rfl (PySem.evalArgs_none (hm pins s1 σ H1 x [] v [] Q I1 r1 .nil q1))⟩
theorem pe_bm (pa : PlainAttrs T) (slot : Slot T name id) (hty : typeOf (.builtin id) = pure (.type "method_descriptor")) (hm : MtR X id r) (ho : PE X o to) (ha : PA X (e :: es) t)
    (hbase : attributeBase o name X.env (eval o X.env) = eval o X.env := by rfl)
    (hfew : ((backTo cpos (starEach (e :: es) X.env)).all (fun x => !x.1) && (backToKw cpos (keywordEach [] X.env)).all (fun x => x.1.isSome)
      && decide ((e :: es).length + ([] : List Keyword).length + (if ([] : List Keyword).isEmpty then 0 else 1) < 30)) = true := by rfl)
    (hline : (apos.endLine == cpos.line) = true := by rfl) (hs : starEach (e :: es) X.env = (false, eval e X.env) :: starEach es X.env := by rfl) (hplain : (backTo cpos (starEach es X.env)).any (·.1) = false := by rfl) :
    PE X (.Call (.Attribute o name apos) (e :: es) [] cpos) (tBM X.K T r to t) := by
  intro pins s σ H Q I h
  refine wpAny_Call_method_late hbase hfew hline rfl (thn (ho pins s σ H _ I h) fun v s1 ⟨x, H1, I1, r1, ty, q1⟩ => ?_)
  obtain ⟨h1, h2⟩ := tyV_is I1 r1 ty
  refine ⟨T, id, pa, slot, hty, h1, h2, ?_⟩
  have hA := ha cpos pins s1 σ H1 _ I1 q1
  rw [hs] at hA ⊢
  refine Calls.callWith_builtin (by show (false || (backTo cpos (starEach es X.env)).any (·.1)) = false; rw [hplain] <;> rfl) (Calls.evalArgs_plain ?_)
  exact thn hA fun us s2 ⟨vs, H2, I2, r2, q2⟩ => hm pins s2 σ H2 x vs v us Q I2 r1 r2 q2
/- xs.append(e), list.index on a module's tuple .. are MtR facts of 06m -/
end
end L2

namespace L2
open PySem PySem.Spec PyProof.Rows

def MtM (X : Cx) (id : String) (r : V → List V → Hp → VK → Prop) : Prop :=
  ∀ (pins : List (Addr × Obj)) (s : Shared) (σ : St) (H : Hp) (x : V) (xs : List V) (v : Value) (us : List Value) (Q : VK), Inv X pins σ H s → RelV x v → Vals xs us → r x xs H Q →
    wpAny (model X.prog X.w) X.A (call (.builtin id) (v :: us)) (EP X pins σ Q) X.xe s

/-! ### lists of values -/
theorem Vals.one : ∀ {x : V} {us : List Value}, Vals [x] us → ∃ u, us = [u] ∧ RelV x u
  | _, _, .cons r .nil => ⟨_, rfl, r⟩
theorem Vals.two : ∀ {x y : V} {us : List Value}, Vals [x, y] us → ∃ u v, us = [u, v] ∧ RelV x u ∧ RelV y v
  | _, _, _, .cons r (.cons q .nil) => ⟨_, _, rfl, r, q⟩
theorem Vals.zero : ∀ {us : List Value}, Vals [] us → us = []
  | _, .nil => rfl
theorem Vals.dropLast {xs : List V} {us : List Value} (h : Vals xs us) : Vals xs.dropLast us.dropLast := by
  induction h with
  | nil => exact .nil
  | cons r t ih =>
    cases t with
    | nil => exact .nil
    | cons q t' => exact .cons r ih
theorem Vals.eraseIdx : ∀ {xs : List V} {us : List Value} (i : Nat), Vals xs us → Vals (xs.eraseIdx i) (us.eraseIdx i)
  | _, _, _, .nil => .nil
  | _, _, 0, .cons _ t => t
  | _, _, i + 1, .cons r t => .cons r (Vals.eraseIdx i t)
theorem Vals.reverse {xs : List V} {us : List Value} (h : Vals xs us) : Vals xs.reverse us.reverse := by
  induction h with
  | nil => exact .nil
  | cons r t ih => rw [List.reverse_cons, List.reverse_cons]; exact Vals.append ih (.cons r .nil)
theorem Vals.rep {xs : List V} {us : List Value} (h : Vals xs us) : ∀ k : Nat, Vals (List.replicate k xs).flatten (List.replicate k us).flatten
  | 0 => .nil
  | k + 1 => by
    rw [List.replicate_succ, List.replicate_succ, List.flatten_cons, List.flatten_cons]
    exact Vals.append h (Vals.rep h k)
theorem erase_last {α : Type} (l : List α) : l.eraseIdx (l.length - 1) = l.dropLast := by
  induction l with
  | nil => rfl
  | cons a r ih =>
    cases r with
    | nil => rfl
    | cons b r =>
      have e : (a :: b :: r).length - 1 = ((b :: r).length - 1) + 1 := by
        have h1 : (a :: b :: r).length = r.length + 2 := rfl
        have h2 : (b :: r).length = r.length + 1 := rfl
        omega
      rw [e, List.eraseIdx_cons_succ, ih]
      all_goals rfl
theorem len_erase {α : Type} : ∀ (l : List α) (i : Nat), (l.eraseIdx i).length ≤ l.length
  | [], _ => Nat.le_refl _
  | _ :: _, 0 => Nat.le_succ _
  | _ :: r, i + 1 => Nat.succ_le_succ (len_erase r i)
theorem foldl_rep (its : List Value) : ∀ (k : Nat) (acc : List Value),
    List.foldl (fun x1 x2 => x1 ++ x2) acc.toArray (List.replicate k its.toArray) = (acc ++ (List.replicate k its).flatten).toArray
  | 0, acc => by simp
  | k + 1, acc => by
    have e : acc.toArray ++ its.toArray = (acc ++ its).toArray := by simp
    have e2 : (acc ++ its) ++ (List.replicate k its).flatten = acc ++ (List.replicate (k + 1) its).flatten := by
      rw [List.replicate_succ, List.flatten_cons, List.append_assoc]
    rw [← e2, ← foldl_rep its k (acc ++ its), ← e, List.replicate_succ, List.foldl_cons]

section
variable {X : Cx} {pins : List (Addr × Obj)} {σ : St} {H : Hp} {s : Shared} {l b : Addr} {xs ys zs : List V}

/-! ### the two steps: a tracked list is rewritten, a new list is laid -/
theorem Inv.lset {its its' : List Value} {n : Nat} {f : Array Value → Array Value} {t' : Nat} (I : Inv X pins σ H s) (hH : H l = some (.lst xs))
    (e : s.heap.get? l = some { cls := .type "list", data := .seq its.toArray n }) (hf : f its.toArray = its'.toArray) (hv : Vals ys its') (hz : ys.length ≤ sizeLine) :
    Inv X pins σ (upd H l (.lst ys)) { s with heap := s.heap.update l (Obj.mapSeq f), toks := t' } := by
  have q := PySem.IsL.update e f
  rw [hf] at q
  refine I.write (x := l) (e := l) (by rw [hH]; exact trivial) (.inl rfl) (fun b' u hb hu => (Heap.get?_update_other s.heap (Obj.mapSeq f) (Ne.symm hb)).trans hu) ⟨_, q⟩ ?_
  exact ⟨hz, its', _, hv, q⟩
theorem Inv.lnew {its : List Value} {t' : Nat} (I : Inv X pins σ H s) (hv : Vals ys its) (hz : ys.length ≤ sizeLine) :
    Inv X pins σ (upd H s.heap.objs.size (.lst ys)) { s with heap := s.heap.push { cls := .type "list", data := .seq its.toArray }, toks := t' } :=
  I.laid (fun _ _ q => Heap.get?_push_of_some _ q) (Nat.le_refl _) ⟨hz, its, 0, hv, Heap.get?_push_size _ rfl⟩
theorem Inv.fresh (I : Inv X pins σ H s) : H s.heap.objs.size = none := I.hok.fresh (Nat.le_refl _)
theorem Inv.lstM (I : Inv X pins σ H s) (hH : H l = some (.lst xs)) : xs.length ≤ sizeLine ∧ ∃ (its : List Value) (n : Nat), Vals xs its ∧ xs.length = its.length ∧ s.heap.get? l = some { cls := .type "list", data := .seq its.toArray n } := by
  obtain ⟨z, its, n, r, e⟩ := I.hok l _ hH
  exact ⟨z, its, n, r, r.length, e⟩

theorem notLongL {n : Nat} (h : n ≤ sizeLine) : Builtin.List.listTooLong n = false := by
  unfold Builtin.List.listTooLong
  exact decide_eq_false (by omega)
end

section
variable {X : Cx}

/-! ### methods -/
def rAppend : V → List V → Hp → VK → Prop := fun x vs H Q => ∃ l xs y, x = .ref l ∧ vs = [y] ∧ H l = some (.lst xs) ∧ xs.length < sizeLine ∧ Q .non (upd H l (.lst (xs ++ [y])))
theorem mt_append : MtM X "list.append" rAppend := by
  intro pins s σ H x vs v us Q I rx rv h
  obtain ⟨l, xs, y, rfl, rfl, hH, hz, q⟩ := h
  cases rx
  obtain ⟨u, rfl, ru⟩ := rv.one
  obtain ⟨z, its, n, r, hl, e⟩ := I.lstM hH
  refine call_meets F.slot_list_append ⟨_, e, rfl⟩ F.entry_list_append (F.args_list_append_2 _ _) (PySem.list_append l its.toArray n u (by rw [List.size_toArray]; omega)) ⟨e, ?_⟩
  refine ⟨.non, _, I.lset (its' := its ++ [u]) hH e (by simp) (r.append (.cons ru .nil)) ?_, rfl, q⟩
  rw [List.length_append, List.length_singleton]
  omega

def rExtend : V → List V → Hp → VK → Prop := fun x vs H Q => ∃ l b xs zs, x = .ref l ∧ vs = [.ref b] ∧ H l = some (.lst xs) ∧ H b = some (.lst zs) ∧ xs.length + zs.length ≤ sizeLine ∧ Q .non (upd H l (.lst (xs ++ zs)))
theorem mt_extend : MtM X "list.extend" rExtend := by
  intro pins s σ H x vs v us Q I rx rv h
  obtain ⟨l, b, xs, zs, rfl, rfl, hH, hB, hz, q⟩ := h
  cases rx
  obtain ⟨u, rfl, ru⟩ := rv.one
  cases ru
  obtain ⟨z, its, n, r, hl, e⟩ := I.lstM hH
  obtain ⟨z2, its2, n2, r2, hl2, e2⟩ := I.lstM hB
  have hsz : its.toArray.size + its2.toArray.size ≤ sizeLine := by rw [List.size_toArray, List.size_toArray]; omega
  have hlong : ¬ (!its.toArray.isEmpty && Builtin.List.listTooLong (its.toArray.size + its2.toArray.size)) = true := by
    rw [notLongL hsz, Bool.and_false]
    exact Bool.false_ne_true
  refine call_meets F.slot_list_extend ⟨_, e, rfl⟩ F.entry_list_extend (F.args_list_extend_2 _ _)
    (AutoSeq1.list_extend_list_list_0 l its.toArray n b its2.toArray n2 hlong (by rw [List.size_toArray]; omega) (by omega)) ⟨e, e2, ?_⟩
  refine ⟨.non, _, I.lset (its' := its ++ its2) hH e (by simp) (r.append r2) ?_, rfl, q⟩
  rw [List.length_append]
  omega

def rPop : V → List V → Hp → VK → Prop := fun x vs H Q => ∃ l xs y, x = .ref l ∧ vs = [] ∧ H l = some (.lst xs) ∧ xs[xs.length - 1]? = some y ∧ Q y (upd H l (.lst xs.dropLast))
theorem mt_pop : MtM X "list.pop" rPop := by
  intro pins s σ H x vs v us Q I rx rv h
  obtain ⟨l, xs, y, rfl, rfl, hH, hy, q⟩ := h
  cases rx
  have hus := rv.zero
  subst hus
  obtain ⟨z, its, n, r, hl, e⟩ := I.lstM hH
  obtain ⟨u, hu, ru⟩ := r.get hy
  have hy' : its.toArray[its.toArray.size - 1]? = some u := by
    show its.toArray[its.length - 1]? = some u
    rw [← Array.getElem?_toList, ← hl]
    exact hu
  refine call_meets F.slot_list_pop ⟨_, e, rfl⟩ F.entry_list_pop (F.args_list_pop_1 _) (MeetsSeq.list_pop_last l its.toArray n u hy' (by rw [List.size_toArray]; omega)) ⟨e, ?_⟩
  refine ⟨y, _, I.lset (its' := its.dropLast) hH e ?_ r.dropLast ?_, ru, q⟩
  · show its.toArray.eraseIdxIfInBounds (its.toArray.size - 1) = its.dropLast.toArray
    rw [List.size_toArray, List.eraseIdxIfInBounds_toArray, erase_last]
  · rw [List.length_dropLast]
    omega

def rPopAt : V → List V → Hp → VK → Prop := fun x vs H Q => ∃ l xs i k y, x = .ref l ∧ vs = [.int i] ∧ H l = some (.lst xs) ∧ -(2 ^ 63) ≤ i ∧ i < 2 ^ 63 ∧ seqIndex? i xs.length = some k ∧ xs[k]? = some y ∧ Q y (upd H l (.lst (xs.eraseIdx k)))
theorem mt_popAt : MtM X "list.pop" rPopAt := by
  intro pins s σ H x vs v us Q I rx rv h
  obtain ⟨l, xs, i, k, y, rfl, rfl, hH, h1, h2, hk, hy, q⟩ := h
  cases rx
  obtain ⟨u, rfl, ru⟩ := rv.one
  obtain ⟨t, rfl⟩ := ru
  obtain ⟨z, its, n, r, hl, e⟩ := I.lstM hH
  obtain ⟨w, hw, rw'⟩ := r.get hy
  refine call_meets F.slot_list_pop ⟨_, e, rfl⟩ F.entry_list_pop (F.args_list_pop_2 _ _)
    (MeetsSeq.list_pop_at l its.toArray n i t k w (fitsIndex_both h1 h2) (by rw [List.size_toArray, ← hl]; exact hk) (by rw [← Array.getElem?_toList]; exact hw) (by rw [List.size_toArray]; omega)) ⟨e, ?_⟩
  refine ⟨y, _, I.lset (its' := its.eraseIdx k) hH e ?_ (r.eraseIdx k) ?_, rw', q⟩
  · show its.toArray.eraseIdxIfInBounds k = (its.eraseIdx k).toArray
    rw [List.eraseIdxIfInBounds_toArray]
  · have := len_erase xs k
    omega

def rReverse : V → List V → Hp → VK → Prop := fun x vs H Q => ∃ l xs, x = .ref l ∧ vs = [] ∧ H l = some (.lst xs) ∧ Q .non (upd H l (.lst xs.reverse))
theorem mt_reverse : MtM X "list.reverse" rReverse := by
  intro pins s σ H x vs v us Q I rx rv h
  obtain ⟨l, xs, rfl, rfl, hH, q⟩ := h
  cases rx
  have hus := rv.zero
  subst hus
  obtain ⟨z, its, n, r, hl, e⟩ := I.lstM hH
  refine call_meets F.slot_list_reverse ⟨_, e, rfl⟩ F.entry_list_reverse (F.args_list_reverse_1 _) (AutoSeq1.list_reverse_list_0 l its.toArray n (by rw [List.size_toArray]; omega)) ⟨e, ?_⟩
  refine ⟨.non, _, I.lset (its' := its.reverse) hH e (by simp) r.reverse ?_, rfl, q⟩
  rw [List.length_reverse]
  omega

def rClear : V → List V → Hp → VK → Prop := fun x vs H Q => ∃ l xs, x = .ref l ∧ vs = [] ∧ H l = some (.lst xs) ∧ Q .non (upd H l (.lst []))
theorem mt_clear : MtM X "list.clear" rClear := by
  intro pins s σ H x vs v us Q I rx rv h
  obtain ⟨l, xs, rfl, rfl, hH, q⟩ := h
  cases rx
  have hus := rv.zero
  subst hus
  obtain ⟨z, its, n, r, hl, e⟩ := I.lstM hH
  refine call_meets F.slot_list_clear ⟨_, e, rfl⟩ F.entry_list_clear (F.args_list_clear_1 _) (AutoSeq1.list_clear_list_0 l its.toArray n (by rw [List.size_toArray]; omega)) ⟨e, ?_⟩
  exact ⟨.non, _, I.lset (its' := []) (ys := []) hH e rfl .nil (Nat.zero_le _), rfl, q⟩

/-! ### list + list, list += list, list * int -/
def rCat : R2 := fun x y H Q => ∃ l b xs zs, x = .ref l ∧ y = .ref b ∧ H l = some (.lst xs) ∧ H b = some (.lst zs) ∧ xs.length + zs.length ≤ sizeLine ∧ ∀ p, H p = none → Q (.ref p) (upd H p (.lst (xs ++ zs)))
theorem op_cat : OpR X (binaryOp .Add) rCat := by
  intro pins s σ H x y v u Q I rx ry h
  obtain ⟨l, b, xs, zs, rfl, rfl, hH, hB, hz, q⟩ := h
  cases rx
  cases ry
  obtain ⟨z, its, n, r, hl, e⟩ := I.lstM hH
  obtain ⟨z2, its2, n2, r2, hl2, e2⟩ := I.lstM hB
  refine PySem.P.add_list e e2 ?_ (by rw [List.size_toArray, List.size_toArray]; omega)
  have ea : its.toArray ++ its2.toArray = (its ++ its2).toArray := by simp
  rw [ea]
  exact ⟨.ref _, _, I.lnew (t' := s.toks) (r.append r2) (by rw [List.length_append]; omega), rfl, q _ I.fresh⟩
/-- a list times an int (a negative one is nothing) -/
def rRep : R2 := fun x y H Q => ∃ l k xs, x = .ref l ∧ y = .int k ∧ H l = some (.lst xs) ∧ -(2 ^ 63) ≤ k ∧ k < 2 ^ 63 ∧ xs.length * k.toNat ≤ sizeLine ∧
  ∀ p, H p = none → Q (.ref p) (upd H p (.lst (List.replicate k.toNat xs).flatten))
theorem len_rep {α : Type} (xs : List α) (k : Nat) : (List.replicate k xs).flatten.length = k * xs.length := by
  induction k with
  | zero => simp
  | succ k ih => rw [List.replicate_succ, List.flatten_cons, List.length_append, ih, Nat.succ_mul, Nat.add_comm]
theorem op_rep : OpR X (binaryOp .Mult) rRep := by
  intro pins s σ H x y v u Q I rx ry h
  obtain ⟨l, k, xs, rfl, rfl, hH, h1, h2, hz, q⟩ := h
  cases rx
  obtain ⟨t, rfl⟩ := ry
  obtain ⟨z, its, n, r, hl, e⟩ := I.lstM hH
  have hlen : its.toArray.size * k.toNat ≤ sizeLine := by rw [List.size_toArray, ← hl]; exact hz
  have hcap : ¬ its.toArray.size * k.toNat > (2 ^ 63 - 1) / 8 := by
    have : (sizeLine : Nat) ≤ (2 ^ 63 - 1) / 8 := by decide
    omega
  have hfit : ¬ (!Builtin.List.listFitsIndex k) = true := by
    rw [fitsIndex_both h1 h2]
    exact Bool.false_ne_true
  have hlong : ¬ Builtin.List.listTooLong (its.toArray.size * k.toNat) = true := by
    rw [notLongL hlen]
    exact Bool.false_ne_true
  have hnew : List.foldl (fun x1 x2 => x1 ++ x2) #[] (List.replicate (if its.toArray.isEmpty = true then 0 else k.toNat) its.toArray) = (List.replicate k.toNat its).flatten.toArray := by
    have f0 : ∀ m : Nat, List.foldl (fun x1 x2 => x1 ++ x2) #[] (List.replicate m its.toArray) = (List.replicate m its).flatten.toArray := fun m => by
      have := foldl_rep its m []
      rw [List.nil_append] at this
      exact this
    rw [f0]
    cases its with
    | nil => simp
    | cons a r' => rw [if_neg (by simp)]
  refine wpAny_binaryOp_repeat_ref (T := "list") (U := "int") (by decide) ⟨_, e, rfl⟩ (fun s' => typeIs_int s' k t) noFill_list_mul F.fills_int_mul F.slot_int_rmul repeat_list F.slot_int_index.lookup
    (call_meets F.slot_int_rmul (typeIs_int s k t) F.entry_int_rmul (F.args_int_rmul_2 _ _) (int___rmul___int_list k t l its.toArray n)
      ⟨e, rfl, ⟨_, e, rfl⟩, call_meets F.slot_list_mul ⟨_, e, rfl⟩ F.entry_list_mul (F.args_list_mul_2 _ _) (AutoListH.list___mul___list_int_3 l its.toArray n k t hfit hcap hlong) ⟨e, ?_⟩⟩)
  rw [hnew]
  exact ⟨.ref _, _, I.lnew (t' := s.toks) (r.rep k.toNat) (by rw [len_rep, Nat.mul_comm]; exact hz), rfl, q _ I.fresh⟩

/-! ### del xs[i] -/
theorem del_list {pins : List (Addr × Obj)} {s : Shared} {σ : St} {H : Hp} {l : Addr} {xs : List V} {i : Int} {t : Tok} {k : Nat} {Q : Unit → Shared → Prop} (I : Inv X pins σ H s) (hH : H l = some (.lst xs))
    (h1 : -(2 ^ 63) ≤ i) (h2 : i < 2 ^ 63) (hk : seqIndex? i xs.length = some k) (h : ∀ s', Inv X pins σ (upd H l (.lst (xs.eraseIdx k))) s' → Q () s') :
    wpAny (model X.prog X.w) X.A (delItem (.ref l) (.int i t)) Q X.xe s := by
  obtain ⟨z, its, n, r, hl, e⟩ := I.lstM hH
  refine PySem.P.delItem_list (k := k) e (fitsIndex_both h1 h2) (by rw [List.size_toArray, ← hl]; exact hk) (h _ ?_) (by rw [List.size_toArray]; omega)
  refine I.lset (its' := its.eraseIdx k) (t' := s.toks) hH e ?_ (r.eraseIdx k) ?_
  · show its.toArray.eraseIdxIfInBounds k = (its.eraseIdx k).toArray
    rw [List.eraseIdxIfInBounds_toArray]
  · have := len_erase xs k
    omega
end

/-! ### xs[a:b] = ys -/
section
variable {prog : Program} {w : World} {A : Around} {E : Value → Shared → Prop} {s : Shared}
theorem splice_eq (its its2 : List Value) (a c : Nat) : its.toArray.extract 0 a ++ its2.toArray ++ its.toArray.extract c its.toArray.size = (its.take a ++ its2 ++ its.drop c).toArray := by
  apply Array.toList_inj.mp
  first
    | (simp
       exact List.take_of_length_le (by simp))
    | simp [List.take_of_length_le]
    | simp
theorem bounds_run {a c n : Nat} (hac : a ≤ c) (hc : c ≤ n) : sliceBounds (some (a : Int)) (some (c : Int)) none n = ((a : Int), (c : Int), 1) := by
  simp only [sliceBounds, Option.getD_none]
  have h1 : ¬ ((a : Int) < 0) := by omega
  have h2 : ¬ ((c : Int) < 0) := by omega
  simp only [h1, h2, if_false, show (1 : Int) > 0 by decide, if_true]
  congr 1
  · omega
  · congr 1; omega
set_option maxRecDepth 100000 in
/-- list.__setitem__ with a slice of step one and another list -/
theorem setItem_slice {l b sl : Addr} {items new : Array Value} {n n2 : Nat} {vl vu : Value} {a c : Nat} {Q : Unit → Shared → Prop}
    (e : s.heap.get? l = some { cls := .type "list", data := .seq items n }) (e2 : s.heap.get? b = some { cls := .type "list", data := .seq new n2 }) (hne : l ≠ b)
    (hs : s.heap.IsSliceOf sl vl vu .none) (pl : IsPart vl (some (a : Int))) (pu : IsPart vu (some (c : Int))) (hac : a ≤ c) (hc : c ≤ items.size)
    (hsz : items.size + new.size ≤ sizeLine) (h : Q () { s with heap := s.heap.update l (Obj.mapSeq fun xs => xs.extract 0 a ++ new ++ xs.extract c xs.size) }) :
    wpAny (model prog w) A (setItem (.ref l) (.ref sl) (.ref b)) Q E s := by
  have hl : s.heap.IsList l items := PySem.IsL.isList e
  have hb : s.heap.IsList b new := PySem.IsL.isList e2
  obtain ⟨os, hos, hcs, hds⟩ := id hs
  have hTs : s.TypeIs (.ref sl) "slice" := ⟨os, hos, hcs⟩
  have hstep : ¬ ((rawPart none == rawInt 0) = true) := Bool.false_ne_true
  have hsame : Builtin.List.listSameRef (.ref l) (.ref b) = false := by
    unfold Builtin.List.listSameRef
    exact beq_eq_false_iff_ne.mpr hne
  have hmax : (max (a : Int) (c : Int)).toNat = c := by omega
  have hz' : ((fun xs : Array Value => xs.extract 0 a ++ new ++ xs.extract c xs.size) items).size ≤ sizeLine + 1 := by
    simp only [Array.size_append, Array.size_extract]
    omega
  unfold setItem
  try with_reducible refine wpAny_holding ?_
  first | refine wpAny_bind (wpAny_pure ?_) | skip
  refine wpAny_bind (wpAny_sequenceKey hl.typeIs (by decide) ?_)
  refine wpAny_bind (wpAny_callSpecial?_slot (name := Str.ofString "__setitem__") hl.typeIs slot_list_setitem
    (wpAny_call_entry slot_list_setitem hl.typeIs entry_list_setitem ?_ (args_list_setitem _ _ _)))
  show wpAny _ _ (Builtin.List.listSubscript? (.ref sl) >>= _) _ _ s
  refine wpAny_bind ?_
  unfold Builtin.List.listSubscript?
  refine wpAny_bind (wpAny_specialOf hTs slice_no_index ?_)
  simp only [Option.isNone_none, if_true]
  refine wpAny_pure ?_
  show wpAny _ _ (typeOf (.ref sl) >>= _) _ _ s
  refine wpAny_bind (wpAny_typeOf hTs ?_)
  first
    | rw [if_neg (by decide)]
    | refine PySem.W.KFB.if_not (by decide) ?_
  rw [listSliceParts_eq]
  refine wpAny_bind (wpAny_bind (wpAny_field hos hds (x := .none) rfl (wpAny_bind (wpAny_listPart .none ?_))))
  rw [if_neg hstep]
  refine wpAny_bind (wpAny_field hos hds (x := vl) rfl (wpAny_bind (wpAny_listPart pl ?_)))
  refine wpAny_bind (wpAny_field hos hds (x := vu) rfl (wpAny_bind (wpAny_listPart pu (wpAny_pure ?_))))
  first
    | simp only [hsame, Bool.false_eq_true, if_false]
    | refine PySem.W.KFB.if_not hsame ?_
    | (dsimp only
       rw [if_neg (by rw [hsame]; exact Bool.false_ne_true)])
  refine wpAny_bind (m := Builtin.List.listAllItems (.ref b) "must assign iterable to extended slice") ?_
  unfold Builtin.List.listAllItems
  refine wpAny_bind (wpAny_typeOf hb.typeIs ?_)
  first
    | refine PySem.W.KFB.if_so (by decide) ?_
    | rw [if_pos (by decide)]
    | simp only [beq_self_eq_true, Bool.true_or, if_true]
  unfold Builtin.List.listItems
  refine wpAny_bind (wpAny_seqItems e2 rfl (wpAny_pure ?_))
  refine wpAny_bind (wpAny_bind (wpAny_seqItems e rfl (wpAny_pure ?_)))
  refine wpAny_bind (wpAny_of_eq ((sliceIndices_raw (some (a : Int)) (some (c : Int)) none items.size (by simp)).trans (congrArg (pure : Int × Int × Int → Sem (Int × Int × Int)) (bounds_run hac hc))) ?_)
  show wpAny _ _ (if ((1 : Int) == 1) = true then _ else _) _ _ s
  rw [if_pos (by decide)]
  refine wpAny_bind (wpAny_rule ?_)
  first
    | simp only [notLongL hsz, Bool.false_eq_true, if_false]
    | refine PySem.W.KFB.if_not (notLongL hsz) ?_
  first | refine wpAny_bind (wpAny_pure ?_) | skip
  show wpAny _ _ (updateSeq l (fun xs => xs.extract 0 ((a : Int)).toNat ++ new ++ xs.extract (max (a : Int) (c : Int)).toNat xs.size) >>= _) _ _ s
  rw [hmax, Int.toNat_natCast]
  refine wpAny_bind (wpAny_updateSeq (hz := Nat.le_trans (Nat.le_add_right _ _) hsz) (_hz' := hz') e rfl ?_)
  refine wpAny_bind (wpAny_letGo ?_)
  first
    | exact wpAny_bind (wpAny_pure (wpAny_pure ⟨.none, rfl, wpAny_pure h⟩))
    | exact wpAny_pure ⟨.none, rfl, wpAny_pure h⟩
end

section
variable {X : Cx}
/-- xs[a:c] = ys of another list, at the value level: sl is the slice object that was just made -/
theorem set_slice {pins : List (Addr × Obj)} {s : Shared} {σ : St} {H : Hp} {l b sl : Addr} {xs ys : List V} {a c : Int} {vl vu : Value} {Q : Unit → Shared → Prop} (I : Inv X pins σ H s)
    (hH : H l = some (.lst xs)) (hB : H b = some (.lst ys)) (hne : l ≠ b) (hs : s.heap.IsSliceOf sl vl vu .none) (ra : RelV (.int a) vl) (rc : RelV (.int c) vu) (h0 : 0 ≤ a) (hac : a ≤ c) (hc : c ≤ xs.length)
    (hz : xs.length + ys.length ≤ sizeLine) (h : ∀ s', Inv X pins σ (upd H l (.lst (xs.take a.toNat ++ ys ++ xs.drop c.toNat))) s' → Q () s') :
    wpAny (model X.prog X.w) X.A (setItem (.ref l) (.ref sl) (.ref b)) Q X.xe s := by
  obtain ⟨ta, rfl⟩ := ra
  obtain ⟨tc, rfl⟩ := rc
  obtain ⟨z, its, n, r, hl, e⟩ := I.lstM hH
  obtain ⟨z2, its2, n2, r2, hl2, e2⟩ := I.lstM hB
  obtain ⟨a', rfl⟩ := Int.eq_ofNat_of_zero_le h0
  obtain ⟨c', rfl⟩ := Int.eq_ofNat_of_zero_le (Int.le_trans h0 hac)
  simp only [Int.toNat_natCast] at h
  refine setItem_slice (a := a') (c := c') e e2 hne hs (.int _ _) (.int _ _) (by omega) (by rw [List.size_toArray]; omega) (by rw [List.size_toArray, List.size_toArray]; omega) (h _ ?_)
  refine I.lset (its' := its.take a' ++ its2 ++ its.drop c') (t' := s.toks) hH e ?_ (Vals.append (Vals.append (r.take _) r2) (r.drop _)) ?_
  · exact splice_eq its its2 a' c'
  · rw [List.length_append, List.length_append, List.length_take, List.length_drop]
    omega
end
end L2

namespace Att
open PySem PySem.W PySem.Calls PyProof.Rows

/-! ### the script -/
theorem ints_of_wellAll {P : Params} {h : Heap} : ∀ (ns : List Int) (vs : List Value), WellAll P h vs (ns.map WData.int) → IntsAre vs ns := by
  intro ns
  induction ns with
  | nil =>
    intro vs w
    rw [List.map_nil] at w
    cases w
    exact .nil
  | cons n ns ih =>
    intro vs w
    rw [List.map_cons] at w
    cases w with
    | cons a b =>
      cases a
      exact .cons _ _ (ih _ b)

theorem script_of {l : OpenLaw} {n : Nat} (hn : l.most = some n) {P : Params} {h : Heap} {args : List WData} {vals : List Value}
    (hpre : l.row.toRowW.claim.pre args = true) (hwl : WellAll P h vals args) :
    ∃ a vs ns, vals = [Value.ref a] ∧ args = [WData.list (ns.map WData.int)] ∧ h.get? a = some { cls := .type "list", data := .seq vs.toArray } ∧ IntsAre vs ns ∧ ns.length ≤ n := by
  have hsh : WShape.hasAll [] args [.list .int] = true := (pre_splitW hpre).1
  have hc : l.pre.holds [] { args := args } = true := (pre_splitW hpre).2
  obtain ⟨d, r, rfl, h1, h2⟩ := hasAllW_cons hsh
  obtain rfl := hasAllW_nil h2
  obtain ⟨xs, rfl, h3⟩ := hasW_list h1
  obtain ⟨ns, rfl⟩ := items_int h3
  have hlen : ns.length ≤ n := by
    unfold OpenLaw.pre at hc
    have h4 : (WTm.not (.lt (.lit (.int (n : Int))) (.len (.arg 0)))).holds [] { args := [.list (ns.map .int)] } = true := by
      have h4 := (holds_andW hc).1
      rw [hn] at h4
      exact h4
    have h5 := condW_of h4 (w_not (w_lt w_lit (w_len_list (w_arg rfl))))
    rw [List.length_map] at h5
    refine Nat.le_of_not_lt fun q => ?_
    have q' : (n : Int) < ((ns.length : Nat) : Int) := by omega
    first
      | (rw [decide_eq_true q'] at h5; exact absurd h5 (by decide))
      | (simp at h5; omega)
  cases hwl with
  | cons w1 w2 =>
    cases w2
    cases w1 with
    | list ho hall => exact ⟨_, _, ns, rfl, rfl, ho, ints_of_wellAll ns _ hall, hlen⟩

theorem post_true (l : OpenLaw) (args : List WData) : l.row.toRowW.claim.post args (.bool true) args = true :=
  postW_of (r := l.row.toRowW) (X := (true == true))
    (show WShape.has [] (.bool true) .bool = true by first | rfl | decide | simp [WShape.has, WShape.arms, WShape.armsAll])
    (show (WTm.eq .res (.lit (.bool true))).value [] { args := args, res := some (.bool true), after := args } = some (.bool (true == true)) from w_eq_bool (w_res rfl) w_lit) rfl

/-! ### the attachment: holds_open's last premise (the goal 'hc' behind k_head) from a wpAny of the law's body -/
theorem attach {l : OpenLaw} {n : Nat} {q : Program} {loose : List Str} {XP : (Str → Option Value) → Heap → Prop} {YP : World → Heap → Prop} {d : DefRec} {x : Str}
    (hn : l.most = some n) (hdf : d.params.defaults = [])
    (hbind : ∀ pm cd doc v : Value, bindArgs (docDef d.name d.params d.body d.scope pm cd doc) ⟨[v], []⟩ = pure [(x, v)])
    (hx : d.scope.names.lookup x = some .local ∨ d.scope.names.lookup x = some .cell)
    (hk : d.scope.kind = .function) (hco : d.scope.isCoroutine = false) (hgen : d.scope.isGenerator = false)
    (body : ∀ (w : World) (s₀ s₁ s : Shared) (mg mb : Str → Option Value) (fa : Addr) (o : Obj) (pm cd doc : Value) (a : Addr) (vs : List Value) (ns : List Int),
      Ground q loose [] XP w s₀ mg mb s₁.heap → YP w s₁.heap →
      s₁.heap.get? fa = some o → o.data = .func (docDef d.name d.params d.body d.scope pm cd doc) → s₁.heap.CodeRec cd d.name → mg d.name = some (.ref fa) →
      s₁.heap.get? a = some { cls := .type "list", data := .seq vs.toArray } → IntsAre vs ns → ns.length ≤ n →
      s.gens = #[] → s.os = s₁.os →
      Fr s₁.heap s₁.heap.objs.size s.heap (bindL (envOfC d.name d.scope s₁.heap.objs.size fa cd).kindOf [(x, .ref a)] fun _ => none) →
      Cl s₁.heap.objs.size (cellsFrom (s₁.heap.objs.size + 1) d.scope.names []) s.heap (bindC (envOfC d.name d.scope s₁.heap.objs.size fa cd).kindOf [(x, .ref a)] fun _ => none) →
      wpAny (model l.prog w) (callerA.deeper (envOfC d.name d.scope s₁.heap.objs.size fa cd)) (execs d.body (envOfC d.name d.scope s₁.heap.objs.size fa cd))
        (fun f s' => f = .ret (.bool true) ∧ OldK s₁.heap s'.heap ∧ s'.os = s₁.os ∧ AllBare s'.gens) (fun _ _ => False) s) :
    WalkO q loose XP YP l.row.toRowW d [] (fun f vs => PySem.call f vs) := by
  intro w s₀ s₁ mg mb G Y fa o pm cd doc dV kV ho hd hcd hD hmg hg args vals as hpre hlay hrd hwl hlo
  obtain rfl : dV = .none := Dflts.none hD hdf
  obtain rfl : kV = .none := Dflts.noKw hD
  obtain ⟨a, vs, ns, rfl, rfl, hobj, hints, hlen⟩ := script_of hn hpre hwl
  refine enter_call ?_
  refine call_cells_ret (o := o) (by rw [depth_caller]; decide) ho (fd_plain hd) G.T.nolimit hcd (hbind pm cd doc (.ref a)) (fun y hy => ?_) (fun h₁ tk F X => ?_) hco hgen hk
  · obtain rfl : y = (x, Value.ref a) := List.mem_singleton.mp hy
    rcases hx with e | e
    · exact .inl e
    · exact .inr ⟨e, cellsFrom_some _ _ _ (.inl e)⟩
  · refine wpAny_mono (body w s₀ s₁ { s₁ with heap := h₁, toks := tk } mg mb fa o pm cd doc a vs ns G Y ho (fd_plain hd) hcd hmg hobj hints hlen hg rfl F X) (fun f s' hq => ?_) (fun _ _ hq => hq)
    obtain ⟨rfl, h2, h3, h4⟩ := hq
    exact ⟨.inl ⟨.bool true, .bool true, [], rfl, fun _ => rfl, .bool true, post_true l _, fun _ => ⟨List.Pairwise.nil, fun _ hm => (nomatch hm)⟩⟩, h2, h3, h4⟩

/-- the same from a codeAny of the CALL (for a layer whose function contracts speak of calls) -/
theorem attach_call {l : OpenLaw} {n : Nat} {q : Program} {loose : List Str} {XP : (Str → Option Value) → Heap → Prop} {YP : World → Heap → Prop} {d : DefRec}
    (hn : l.most = some n) (hdf : d.params.defaults = [])
    (call : ∀ (w : World) (s₀ s₁ : Shared) (mg mb : Str → Option Value) (fa : Addr) (o : Obj) (pm cd doc : Value) (a : Addr) (vs : List Value) (ns : List Int),
      Ground q loose [] XP w s₀ mg mb s₁.heap → YP w s₁.heap →
      s₁.heap.get? fa = some o → o.data = .func (docDef d.name d.params d.body d.scope pm cd doc) → s₁.heap.CodeRec cd d.name → mg d.name = some (.ref fa) →
      s₁.heap.get? a = some { cls := .type "list", data := .seq vs.toArray } → IntsAre vs ns → ns.length ≤ n → s₁.gens = #[] →
      codeAny (model l.prog w) callerA (.call (.ref fa) ⟨[.ref a], []⟩) (fun r s' => r = .ok (.ret (.bool true)) ∧ OldK s₁.heap s'.heap ∧ s'.os = s₁.os ∧ AllBare s'.gens) s₁) :
    WalkO q loose XP YP l.row.toRowW d [] (fun f vs => PySem.call f vs) := by
  intro w s₀ s₁ mg mb G Y fa o pm cd doc dV kV ho hd hcd hD hmg hg args vals as hpre hlay hrd hwl hlo
  obtain rfl : dV = .none := Dflts.none hD hdf
  obtain rfl : kV = .none := Dflts.noKw hD
  obtain ⟨a, vs, ns, rfl, rfl, hobj, hints, hlen⟩ := script_of hn hpre hwl
  refine enter_call (codeAny_mono (call w s₀ s₁ mg mb fa o pm cd doc a vs ns G Y ho (fd_plain hd) hcd hmg hobj hints hlen hg) fun r s' hq => ?_)
  obtain ⟨rfl, h2, h3, h4⟩ := hq
  exact ⟨.inl ⟨.bool true, .bool true, [], rfl, fun _ => rfl, .bool true, post_true l _, fun _ => ⟨List.Pairwise.nil, fun _ hm => (nomatch hm)⟩⟩, h2, h3, h4⟩

/-- the same where the top left finished generators (o_head chose holds_openN): nothing may have changed at all and no generator may be left -/
theorem attachN {l : OpenLaw} {n : Nat} {q : Program} {loose : List Str} {XP : (Str → Option Value) → Heap → Prop} {YP : World → Heap → Prop} {d : DefRec} {x : Str}
    (hn : l.most = some n) (hdf : d.params.defaults = [])
    (hbind : ∀ pm cd doc v : Value, bindArgs (docDef d.name d.params d.body d.scope pm cd doc) ⟨[v], []⟩ = pure [(x, v)])
    (hx : d.scope.names.lookup x = some .local ∨ d.scope.names.lookup x = some .cell)
    (hk : d.scope.kind = .function) (hco : d.scope.isCoroutine = false) (hgen : d.scope.isGenerator = false)
    (body : ∀ (w : World) (s₀ s₁ s : Shared) (mg mb : Str → Option Value) (fa : Addr) (o : Obj) (pm cd doc : Value) (a : Addr) (vs : List Value) (ns : List Int),
      Ground q loose [] XP w s₀ mg mb s₁.heap → YP w s₁.heap →
      s₁.heap.get? fa = some o → o.data = .func (docDef d.name d.params d.body d.scope pm cd doc) → s₁.heap.CodeRec cd d.name → mg d.name = some (.ref fa) →
      s₁.heap.get? a = some { cls := .type "list", data := .seq vs.toArray } → IntsAre vs ns → ns.length ≤ n →
      s.gens = #[] → s.os = s₁.os →
      Fr s₁.heap s₁.heap.objs.size s.heap (bindL (envOfC d.name d.scope s₁.heap.objs.size fa cd).kindOf [(x, .ref a)] fun _ => none) →
      Cl s₁.heap.objs.size (cellsFrom (s₁.heap.objs.size + 1) d.scope.names []) s.heap (bindC (envOfC d.name d.scope s₁.heap.objs.size fa cd).kindOf [(x, .ref a)] fun _ => none) →
      wpAny (model l.prog w) (callerA.deeper (envOfC d.name d.scope s₁.heap.objs.size fa cd)) (execs d.body (envOfC d.name d.scope s₁.heap.objs.size fa cd))
        (fun f s' => f = .ret (.bool true) ∧ (∀ b o, s₁.heap.get? b = some o → s'.heap.get? b = some o) ∧ s'.os = s₁.os ∧ s'.gens = #[]) (fun _ _ => False) s) :
    WalkN q loose XP YP l.row.toRowW d [] (fun f vs => PySem.call f vs) := by
  intro w s₀ s₁ mg mb G Y fa o pm cd doc dV kV ho hd hcd hD hmg hg args vals as hpre hlay hrd hwl hlo
  obtain rfl : dV = .none := Dflts.none hD hdf
  obtain rfl : kV = .none := Dflts.noKw hD
  obtain ⟨a, vs, ns, rfl, rfl, hobj, hints, hlen⟩ := script_of hn hpre hwl
  refine enter_callW ?_
  refine call_cells_ret (o := o) (by rw [depth_caller]; decide) ho (fd_plain hd) G.T.nolimit hcd (hbind pm cd doc (.ref a)) (fun y hy => ?_) (fun h₁ tk F X => ?_) hco hgen hk
  · obtain rfl : y = (x, Value.ref a) := List.mem_singleton.mp hy
    rcases hx with e | e
    · exact .inl e
    · exact .inr ⟨e, cellsFrom_some _ _ _ (.inl e)⟩
  · refine wpAny_mono (body w s₀ s₁ { s₁ with heap := h₁, toks := tk } mg mb fa o pm cd doc a vs ns G Y ho (fd_plain hd) hcd hmg hobj hints hlen hg rfl F X) (fun f s' hq => ?_) (fun _ _ hq => hq)
    obtain ⟨rfl, h2, h3, h4⟩ := hq
    exact ⟨.inl ⟨.bool true, .bool true, [], rfl, fun _ => rfl, .bool true, post_true l _, fun _ => ⟨List.Pairwise.nil, fun _ hm => (nomatch hm)⟩⟩, h2, h3, h4⟩

/-! ### rules over ANY heap (no ledger) from facts about the written part K: the library's own take a ledger (News) for what they write -/
section
variable {prog : Program} {w : World} {A : Around} {E : Value → Shared → Prop} {s : Shared} {K : Frag}

/-- a def of the module, or a method (qual 'C.m'), entered: the frame is the next address; cells behind it -/
theorem call_fn {R : Result → Shared → Prop} {name qual : Str} {params : Arguments} {body : List Stmt} {scope : Scope} {dV kV doc pm cdv ct oc : Value} {an od : Option Addr} {osl : Array (Option Value)} {f : Addr} {args : Args} {binds : List (Str × Value)}
    (X : K.In s.heap) (hlim : s.heap.NoLimit) (ho : K.lookup f = some ⟨oc, od, .func (fnOf name qual params body scope dV kV doc pm an cdv ct), osl⟩) (hcd : codeIn K cdv qual = true) (hroom : A.depth < recursionLimit)
    (hbind : BindsTo s (fnOf name qual params body scope dV kV doc pm an cdv ct) args binds)
    (hkind : (binds.all fun y => scope.names.lookup y.1 == some .local || scope.names.lookup y.1 == some .cell) = true)
    (h : ∀ s₁, InCallC s s.heap.objs.size (bindL (envOfC qual scope s.heap.objs.size f cdv).kindOf binds fun _ => none) (cellsFrom (s.heap.objs.size + 1) scope.names [])
        (bindC (envOfC qual scope s.heap.objs.size f cdv).kindOf binds fun _ => none) s₁ →
      wpAny (model prog w) (A.deeper (envOfC qual scope s.heap.objs.size f cdv)) (execs body (envOfC qual scope s.heap.objs.size f cdv))
        (fun fl s' => R (.ok (.ret (match fl with | .ret v => v | _ => .none))) s')
        (fun e s' => wpAny (model prog w) (A.deeper (envOfC qual scope s.heap.objs.size f cdv)) (leaving (envOfC qual scope s.heap.objs.size f cdv) e) (fun _ s'' => R (.error e) s'') (fun e' s'' => R (.error e') s'') s') s₁)
    (hco : scope.isCoroutine = false) (hgen : scope.isGenerator = false) (hk : scope.kind = .function) : codeAny (model prog w) A (.call (.ref f) args) R s := by
  refine codeAny_call_function hroom (X _ _ ho) rfl hco hgen rfl (codeRec_of X hcd) (hbind _ _ _ _ ?_)
  refine wpAny_newFunctionEnv_cells hk (kindsX hkind _) fun env he s₁ x => ?_
  subst he
  exact ⟨hlim.keeps x.toInCall.keep, codeAny_func (h s₁ x)⟩

/-- C(..): dict at size, instance at size + 1, then __init__ -/
theorem make_obj {R : Result → Shared → Prop} {C fI : Addr} {rest : List Value} {kw : List (Str × Value)}
    (X : K.In s.heap) (hm : makesIn K C = true) (hi : findIn K (.ref C) "__init__" = some (some (.ref fI))) (hf : isFn K (.ref fI) = true)
    (h : codeAny (model prog w) (A.under (.builtin "type.__call__" ⟨.ref C :: rest, kw⟩)) (.call (.ref fI) ⟨.ref (s.heap.objs.size + 1) :: rest, kw⟩) (InitBack (s.heap.objs.size + 1) R)
      { s with heap := (s.heap.push emptyDict).push (instObj C s.heap.objs.size) }) : codeAny (model prog w) A (.call (.ref C) ⟨rest, kw⟩) R s := by
  obtain ⟨hh, g, d, t, os⟩ := s
  exact make_core (makes_of X hm) (looks_findIn X hi) (fun self => bind_fn X self (beq_iff_eq.mp hf)) (.inl rfl) h

/-- x.name where the instance's dict holds the name and the class does not -/
theorem get_field {x C : Addr} {ox : Obj} {es : List DictEntry} {n : Nat} {name : Str} {expr : Bool} {v : Value} {Q : Value → Shared → Prop}
    (X : K.In s.heap) (I : PySem.W.InstAt s.heap x ox C (some (dictOf es n))) (hg : plainGet K C name = true) (hh : hasDictIn K C = true) (ha : findIn K (.ref C) name = some none)
    (hl : getL name es = some (some v)) (hv : handedIn v = true) (h : Q v { s with toks := s.toks + 1 }) : wpAny (model prog w) A (getAttr (.ref x) name expr) Q E s :=
  get_value X I (plainGet_of hg).1 (findObj_own hh ha rfl hl) hv h

/-- x.m(..): the method found in the class -/
theorem get_method {x C f : Addr} {ox : Obj} {es : List DictEntry} {n : Nat} {name : Str} {pl : Sem Bool} {Q : Value × List Value → Shared → Prop}
    (X : K.In s.heap) (I : PySem.W.InstAt s.heap x ox C (some (dictOf es n))) (hg : plainGet K C name = true) (hf : findIn K (.ref C) name = some (some (.ref f))) (ht : isFn K (.ref f) = true)
    (hl : getL name es = some none) (h : Q (.ref f, [.ref x]) s) : wpAny (model prog w) A (getMethod (.ref x) name pl) Q E s :=
  method_fn X I (plainGet_of hg).1 (plainGet_of hg).2 hf (beq_iff_eq.mp ht) (by show (lookIn name (dictOf es n)).map _ = _; rw [lookIn_dict, hl]; rfl) h

/-! the whole heap as the ledger: makes every rule that writes through a ledger a rule over any heap -/
def noObjs (h : Heap) : Heap := { h with objs := #[] }
theorem noObjs_get (h : Heap) (b : Addr) : (noObjs h).get? b = none := by
  cases e : (noObjs h).get? b with
  | none => rfl
  | some o => exact absurd (Heap.lt_size e) (Nat.not_lt_zero _)
def ledger (h : Heap) (L d : Addr) : List (Addr × Obj) := (List.range h.objs.size).filterMap fun a => if a = L ∨ a = d then none else (h.get? a).map fun o => (a, o)
theorem mem_ledger {h : Heap} {L d a : Addr} {o : Obj} : (a, o) ∈ ledger h L d ↔ a ≠ L ∧ a ≠ d ∧ h.get? a = some o := by
  unfold ledger
  rw [List.mem_filterMap]
  constructor
  · rintro ⟨b, _, e⟩
    split at e
    · cases e
    · rename_i hb
      obtain ⟨o', ho, e'⟩ := Option.map_eq_some_iff.mp e
      cases e'
      exact ⟨fun q => hb (.inl q), fun q => hb (.inr q), ho⟩
  · rintro ⟨n1, n2, ho⟩
    refine ⟨a, List.mem_range.mpr (Heap.lt_size ho), ?_⟩
    rw [if_neg (show ¬ (a = L ∨ a = d) from fun q => q.elim n1 n2), ho] <;> rfl
theorem news_ledger {h : Heap} {L d : Addr} {od : Obj} (hne : d ≠ L) (ho : h.get? d = some od) : News (noObjs h) L h ([] ++ (d, od) :: ledger h L d) := by
  rintro ⟨a, o⟩ hp
  rcases List.mem_cons.mp hp with e | hp
  · cases e
    exact ⟨ho, hne, noObjs_get _ _⟩
  · obtain ⟨n1, n2, e⟩ := mem_ledger.mp hp
    exact ⟨e, n1, noObjs_get _ _⟩
theorem fr_all {h : Heap} {L : Addr} {m : Str → Option Value} (n : h.Ns L m) : Fr (noObjs h) L h m :=
  ⟨n, fun b o e => (by rw [noObjs_get] at e; cases e), Nat.zero_le _⟩
/-- Upd of the head entry (for append_K, setItem_K ..) -/
theorem upd_ledger {h : Heap} {L d : Addr} {o o' : Obj} : Upd d o o' ((d, o) :: ledger h L d) ((d, o') :: ledger h L d) :=
  .head fun ⟨_, _⟩ hp => (mem_ledger.mp hp).2.1

/-- x.name = v over any heap: L is any namespace of the heap (the frame's, say): its map stays, its object is not told; all else but the dict stays -/
theorem set_field {x C dx L : Addr} {ox : Obj} {m : Str → Option Value} {es es' : List DictEntry} {n n' : Nat} {name : Str} {v : Value} {Q : Unit → Shared → Prop}
    (X : K.In s.heap) (I : PySem.W.InstAt s.heap x ox C (some (dictOf es n))) (hd : ox.dict = some dx) (hL : s.heap.Ns L m) (hne : dx ≠ L)
    (hs : findIn K (.ref C) "__setattr__" = some (some (.builtin "object.__setattr__"))) (hp : plainOver K C = true) (ht : takerIn K C name = some none) (hh : hasDictIn K C = true) (hl : (getL name es).isSome = true)
    (e : (putL name (PyData.keyHash w.params name) (.str name (s.toks + 1)) v es, putN name es n) = (es', n')) (hz : es'.length ≤ 1000)
    (h : ∀ h' : Heap, h'.Ns L m → h'.get? dx = some (dictOf es' n') → (∀ b o, b ≠ dx → b ≠ L → s.heap.get? b = some o → h'.get? b = some o) → Q () { s with heap := h', toks := s.toks + 2 }) :
    wpAny (model prog w) A (setAttr (.ref x) name v) Q E s := by
  obtain ⟨e1, e2⟩ := Prod.mk.inj e
  have hdx : s.heap.get? dx = some (dictOf es n) := by
    have := I.dict
    rw [hd] at this
    exact this
  refine set_plain X I hs (osa_dict (s := { s with toks := s.toks + 1 }) (h₀ := noObjs s.heap) (L := L) (m := m) (od := dictOf es n) (od' := dictOf es' n') (es := es') (n := n') (pre := []) (post := ledger s.heap L dx)
    (fr_all hL) (news_ledger hne hdx) X I hd hp ht hh hl (fun _ q => nomatch q) (fun ⟨_, _⟩ q => (mem_ledger.mp q).2.1) (by rw [putName_dict, e1, e2]) rfl hz fun h' F' N' => ?_)
  exact h h' F'.ns (N'.get (List.Mem.head _)) fun b o n1 n2 ho => N'.get (List.Mem.tail _ (mem_ledger.mpr ⟨n2, n1, ho⟩))
end
end Att

namespace L2
open PySem PySem.Spec PyProof.Rows

theorem vals_ints : ∀ {vs : List Value} {ns : List Int}, IntsAre vs ns → Vals (ns.map V.int) vs
  | _, _, .nil => .nil
  | _, _, .cons n t h => .cons ⟨t, rfl⟩ (vals_ints h)

/-- nothing is tracked but the script, known to the object (or it is an object of the module) -/
def Only (H : Hp) : Prop := ∀ b, H b = none ∨ ∃ o xs, H b = some (.frz o (.lst xs))

/-- THE HEAD: the law's promise, at the heap behind the top. F, the promise of the law's def, may use that base is part of the heap (so K.In base, base.Ns mainGlobals mg stand in Mod) -/
theorem law_call {P : Program} {w : World} {K : PySem.W.Frag} {mg mb : Str → Option Value} {CX : CXT} {k : Nat} {fa a : Addr} {fd : FuncData} {x : Str} {sp : Sp} {s₁ : Shared} {vs : List Value} {ns : List Int}
    (KX : K.In s₁.heap) (hns : s₁.heap.Ns mainGlobals mg) (hb : s₁.heap.Ns builtinsNs mb) (hbb : ∀ x : Str, x ≠ "__name__" → mb x = bootBuiltins x) (hlim : s₁.heap.NoLimit) (hg : s₁.gens = #[])
    (ha : s₁.heap.get? a = some { cls := .type "list", data := .seq vs.toArray }) (hi : IntsAre vs ns) (hl : ns.length ≤ sizeLine) (hr : Room k callerA)
    (F : ∀ base : Heap, K.In base → base.Ns mainGlobals mg → FnOk P w K mg base CX k fa fd [x] sp) (hbind : ∀ (s : Shared) (u : Value), BindsTo s fd ⟨[u], []⟩ [(x, u)])
    (hsp : ∀ H : Hp, Only H → SqL K H a (ns.map V.int) → sp [.ref a] H (fun v _ => v = .bl true) fun _ _ _ => False)
    (hCX : ∀ H e s', CX [] H s₁ (fun _ _ _ => False) e s' → False) :
    codeAny (model P w) callerA (.call (.ref fa) ⟨[.ref a], []⟩) (fun r s' => r = .ok (.ret (.bool true)) ∧ OldK s₁.heap s'.heap ∧ s'.os = s₁.os ∧ AllBare s'.gens) s₁ := by
  have rv := vals_ints hi
  have lenV := hi.length
  -- from an abstract heap in which nothing but the script may be tracked
  have core : ∀ H : Hp, Only H → SqL K H a (ns.map V.int) → HOk P w H s₁.heap → (∀ b, H b ≠ none → b = a) → (H a ≠ none → K.lookup a = none) →
      codeAny (model P w) callerA (.call (.ref fa) ⟨[.ref a], []⟩) (fun r s' => r = .ok (.ret (.bool true)) ∧ OldK s₁.heap s'.heap ∧ s'.os = s₁.os ∧ AllBare s'.gens) s₁ := by
    intro H hO hS hok hA hK
    have base_of : ∀ {b : Addr} {o : Obj}, s₁.heap.get? b = some o → H b = none → (hidT s₁.heap H).get? b = some o := fun e n => hidT_get e n
    have noA : ∀ {b : Addr} {o : Obj} {es : Array DictEntry} {ep : Nat}, s₁.heap.get? b = some o → o.data = .dict es ep → H b = none := fun {b o es ep} e d => by
      cases q : H b with
      | none => rfl
      | some u =>
        have e' : b = a := hA b (by rw [q]; simp)
        subst e'
        rw [ha] at e; cases e
        have d' : Data.seq vs.toArray _ = Data.dict es ep := d
        cases d'
    have nsK : ∀ {b : Addr} {m : Str → Option Value}, s₁.heap.Ns b m → (hidT s₁.heap H).Ns b m := fun {b m} ⟨o, es, ep, e, d, r⟩ => ⟨o, es, ep, base_of e (noA e d), d, r⟩
    have hKb : K.In (hidT s₁.heap H) := fun b o e => base_of (KX b o e) (by
      cases q : H b with
      | none => rfl
      | some u =>
        have e' : b = a := hA b (by rw [q]; simp)
        subst e'
        rw [hK (by rw [q]; simp)] at e; cases e)
    have hM : Mod K mg (hidT s₁.heap H) := ⟨hKb, nsK hns, ⟨mb, nsK hb, hbb⟩, let ⟨mc, h1, h2⟩ := hlim; ⟨mc, nsK h1, h2⟩⟩
    have e0 : Env0 P w K mg (hidT s₁.heap H) callerA [] s₁ H := ⟨rfl, hM, fun b o e => of_hidT e, Nat.le_of_eq (hidT_size _ _), trivial, fun b hb => absurd (show b ∈ ([] : List Addr) from hb) (by simp), hok, .of_eq hg⟩
    refine codeAny_mono ((F _ hKb (nsK hns)).run callerA [] s₁ H ⟨[.ref a], []⟩ [.ref a] [.ref a] _ _ hr e0 (hbind s₁ (.ref a)) (.cons rfl .nil) (hsp H hO hS)) fun r s' h => ?_
    cases r with
    | error e => exact (hCX H e s' h).elim
    | ok fl =>
      cases fl with
      | next => exact False.elim h
      | brk => exact False.elim h
      | cont => exact False.elim h
      | ret u =>
        obtain ⟨v, H', os, bare, un, hok', r', q⟩ := h
        have q' : v = .bl true := q
        subst q'
        obtain rfl : u = Value.bool true := r'
        refine ⟨rfl, OldK.of_keep fun b o e => ?_, os, bare⟩
        cases q : H b with
        | none => exact un.keep b o e q (by intro z; exact absurd (show b ∈ ([] : List Addr) from z) (by simp)) (by simp)
        | some u =>
          rcases hO b with z | ⟨ob, xs, z⟩
          · rw [q] at z; cases z
          · have z2 := un.frzs b ob _ z
            obtain ⟨e1, _⟩ := hok b _ z
            obtain ⟨e2, _⟩ := hok' b _ z2
            rw [e] at e1; cases e1
            exact e2
  cases hk : K.lookup a with
  | some o =>
    -- the script is one of the module's own objects
    have e := KX a o hk
    rw [ha] at e
    cases e
    refine core (fun _ => none) (fun _ => .inl rfl) (.inr ⟨_, vs.toArray, _, hk, rfl, rfl, rfl, by rw [List.size_toArray, lenV]; exact hl, by simpa using rv⟩) (fun b u z => by have z' : (none : Option HO) = some u := z; cases z') (fun b z => absurd rfl z) fun z => absurd rfl z
  | none =>
    refine core (fun b => if b = a then some (.frz { cls := .type "list", data := .seq vs.toArray } (.lst (ns.map V.int))) else none) (fun b => ?_) (.inl (.inr ⟨{ cls := .type "list", data := .seq vs.toArray }, if_pos rfl⟩)) (fun b u z => ?_) (fun b z => ?_) fun _ => hk
    · by_cases hb : b = a
      · exact .inr ⟨_, _, if_pos hb⟩
      · exact .inl (if_neg hb)
    · by_cases hb : b = a
      · have z' := (if_pos hb).symm.trans z
        cases z'
        subst hb
        exact ⟨ha, by rw [List.length_map]; exact hl, vs, _, rv, ha⟩
      · have z' := (if_neg hb).symm.trans z
        cases z'
    · by_cases hb : b = a
      · exact hb
      · exact absurd (if_neg hb) z
end L2

namespace L2
open PySem PySem.Spec PyProof.Rows

abbrev KOf {K : PySem.W.Frag} {h : Heap} (_ : K.In h) : PySem.W.Frag := K

/-- the goal that k_head leaves (case hc), from the law's promise. F gives the function object fd (K's own) once, then the promise over every base -/
theorem walk_of {l : PySem.W.OpenLaw} {n k : Nat} {q : Program} {loose : List Str} {XP : (Str → Option Value) → Heap → Prop} {YP : World → Heap → Prop} {d : DefRec} {K : Params → PySem.W.Frag} {CX : World → CXT} {sp : World → Sp} {x : Str}
    (hn : l.most = some n) (hn2 : n ≤ sizeLine) (hdf : d.params.defaults = []) (hr : Room k callerA)
    (hY : ∀ (w : World) (h : Heap), YP w h → (K w.params).In h)
    (F : ∀ (w : World) (mg : Str → Option Value) (fa : Addr) (h : Heap), (K w.params).In h → h.Ns mainGlobals mg → mg d.name = some (.ref fa) →
      ∃ fd : FuncData, (∀ (s : Shared) (u : Value), BindsTo s fd ⟨[u], []⟩ [(x, u)]) ∧
        ∀ base : Heap, (K w.params).In base → base.Ns mainGlobals mg → FnOk l.prog w (K w.params) mg base (CX w) k fa fd [x] (sp w))
    (hsp : ∀ (w : World) (H : Hp) (a : Addr) (ns : List Int), ns.length ≤ n → Only H → SqL (K w.params) H a (ns.map V.int) → sp w [.ref a] H (fun v _ => v = .bl true) fun _ _ _ => False)
    (hCX : ∀ (w : World) (H : Hp) (s : Shared) (e : Value) (s' : Shared), CX w [] H s (fun _ _ _ => False) e s' → False) :
    PySem.W.WalkO q loose XP YP l.row.toRowW d [] (fun f vs => PySem.call f vs) := by
  refine Att.attach_call hn hdf fun w s₀ s₁ mg mb fa o pm cd doc a vs ns G Y ho hd hcd hmg hobj hints hlen hg => ?_
  have KX := hY w _ Y
  obtain ⟨fd, hb, hF⟩ := F w mg fa _ KX G.T.g hmg
  exact law_call KX G.T.g G.T.b G.T.builtins G.T.nolimit hg hobj hints (Nat.le_trans hlen hn2) hr hF hb (fun H hO hS => hsp w H a ns hlen hO hS) fun H e s' => hCX w H s₁ e s'
/-- the same where the promise hangs on the written part alone: (sp := My.sp_law), no hole under a binder -/
theorem walk_ofK {l : PySem.W.OpenLaw} {n k : Nat} {q : Program} {loose : List Str} {XP : (Str → Option Value) → Heap → Prop} {YP : World → Heap → Prop} {d : DefRec} {K : Params → PySem.W.Frag} {CX : CXT} {sp : PySem.W.Frag → Sp} {x : Str}
    (hn : l.most = some n) (hn2 : n ≤ sizeLine) (hdf : d.params.defaults = []) (hr : Room k callerA)
    (hY : ∀ (w : World) (h : Heap), YP w h → (K w.params).In h)
    (F : ∀ (w : World) (mg : Str → Option Value) (fa : Addr) (h : Heap), (K w.params).In h → h.Ns mainGlobals mg → mg d.name = some (.ref fa) →
      ∃ fd : FuncData, (∀ (s : Shared) (u : Value), BindsTo s fd ⟨[u], []⟩ [(x, u)]) ∧
        ∀ base : Heap, (K w.params).In base → base.Ns mainGlobals mg → FnOk l.prog w (K w.params) mg base CX k fa fd [x] (sp (K w.params)))
    (hsp : ∀ (K : PySem.W.Frag) (H : Hp) (a : Addr) (ns : List Int), ns.length ≤ n → Only H → SqL K H a (ns.map V.int) → sp K [.ref a] H (fun v _ => v = .bl true) fun _ _ _ => False)
    (hCX : ∀ (H : Hp) (s : Shared) (e : Value) (s' : Shared), CX [] H s (fun _ _ _ => False) e s' → False) :
    PySem.W.WalkO q loose XP YP l.row.toRowW d [] (fun f vs => PySem.call f vs) :=
  walk_of (K := K) (CX := fun _ => CX) (sp := fun w => sp (K w.params)) hn hn2 hdf hr hY F (fun w H a ns h1 h2 h3 => hsp (K w.params) H a ns h1 h2 h3) fun _ H s e s' => hCX H s e s'
end L2

/- THE LAST THEOREM (shape; LID, My.* are yours):
   My.Adr: a structure of the addresses that your layer names (classes, functions); My.Txt K t: a structure (Prop) of the equations over K;
   My.txt_mk : {K} {implicit addresses ..} (e1 : nsIn K mainGlobals "law" = some (some (.ref f))) (e2 : K.lookup f = some ⟨oc, od, .func (fnOf "law" "law" params body scope dV kV doc pm an cdv ct), sl⟩) (e3 : codeIn K cdv "law" = true) .. : ∃ t, My.Txt K t

set_option maxRecDepth 100000 in
set_option maxHeartbeats 0 in
theorem PySem.Challenge.cw_LID_holds : PySem.Challenge.rw_LID.Holds := by
  w_on; o_law; k_head; (case hw => w_witness2)
  k_fill
  refine L2.walk_of (l := PySem.Challenge.rw_LID) (n := 63) (k := 40) (x := "script") (CX := fun w => ..) (sp := fun _ => My.sp_law) rfl (by decide) rfl ⟨rfl, by decide, by decide⟩ (fun w h Y => PySem.W.kIn_of Y) ?F ?S ?C
  case F =>
    intro w mg fa h KX G hmg
    have T : ∃ t, My.Txt (L2.KOf KX) t := by
      dsimp only [L2.KOf]                          -- K must stand as «<heap const> w.params» for k_is
      refine' My.txt_mk ?e1 ?e2 ?e3 ..
      (case e1 => PySem.W.k_is)                    -- in the order: a name -> its address -> its object -> its parts
      (case e2 => PySem.W.k_is)
      ..
    obtain ⟨t, T⟩ := T
    have e0 := hmg.symm.trans (PySem.W.mg_of KX G T.law)
    cases e0                                       -- fa is the law's own address
    exact ⟨_, fun s u => .of_eq rfl, fun base kb nb => My.law_fn T kb nb⟩     -- if «.of_eq rfl» comes too early: refine' ⟨_, ?b, fun base kb nb => My.law_fn T kb nb⟩; exact fun s u => .of_eq rfl
  case S => exact fun w H a ns hl hO hS => ..
  case C => exact ..
(the tactic k_is has no namespace: write k_is) -/

/-! SHORT WORDS over the layer: a def of the text, its body, what a loop and a test want. -/
namespace L2
open PySem PySem.Spec PyProof.Rows

/-! ### the text by places -/
/-- the j-th statement of a class's body -/
def inClass (s : Stmt) (j : Nat) : Stmt := match s with
  | .ClassDef _ _ _ body _ _ _ _ _ _ _ => body.getD j (.Pass ⟨0, 0, 0, 0⟩)
  | _ => .Pass ⟨0, 0, 0, 0⟩
def defArgs (s : Stmt) : Arguments := match s with
  | .FunctionDef _ a _ _ _ _ _ _ _ _ => a
  | _ => { posonlyargs := [], args := [], vararg := none, kwonlyargs := [], kw_defaults := [], kwarg := none, defaults := [] }
def defBody (s : Stmt) : List Stmt := match s with
  | .FunctionDef _ _ b _ _ _ _ _ _ _ => b
  | _ => []
def defScope (s : Stmt) : Scope := match s with
  | .FunctionDef _ _ _ _ _ _ sc _ _ _ => sc
  | _ => { kind := .function, names := [], isGenerator := false, isCoroutine := false }

/-! ### no exception leaves a def -/
abbrev CX0 : CXT := fun _ _ _ _ _ _ => False
abbrev E0 : XK := fun _ _ _ => False
theorem pass0 {X : Cx} : Passes CX0 X E0 := fun _ _ _ _ _ _ _ h => h.elim

/-! ### a def (or method) of the text as it stands behind the top -/
structure Fun (K : PySem.W.Frag) (x qual : Str) (st : Stmt) (f : Addr) (fd : FuncData) : Prop where
  ex : ∃ (oc : Value) (od : Option Addr) (kV doc pm : Value) (an : Option Addr) (cdv ct : Value) (osl : Array (Option Value)),
    fd = PySem.W.fnOf x qual (defArgs st) (defBody st) (defScope st) .none kV doc pm an cdv ct ∧ K.lookup f = some ⟨oc, od, .func fd, osl⟩ ∧ PySem.W.codeIn K cdv qual = true
  kp : PySem.W.keepIn K (.ref f) = true
section
variable {P : Program} {w : World} {K : PySem.W.Frag} {mg : Str → Option Value} {base : Heap}
/-- THE RULE for a def: its body as a term of rules, and the reading of that term -/
theorem Fun.ok {x qual : Str} {st : Stmt} {f : Addr} {fd : FuncData} {N ps : List Str} {k : Nat} {sp : Sp} (F : Fun K x qual st f fd) (S : FnScope N ps (defScope st)) (len : ∀ vs H Q E, sp vs H Q E → vs.length = ps.length)
    (hbody : ∀ (cdv : Value) (A : Around) (outer : List Env) (s : Shared) (H : Hp) (vs : List V) (Q : VK) (E : XK), Room k (A.deeper (envOfC qual (defScope st) s.heap.objs.size f cdv)) → sp vs H Q E →
      ∃ t, PSs (cxOf CX0 P w K mg base N qual (defScope st) f cdv A outer s H E).nox (defBody st) t ∧ t { nx := fun _ H' => Q .non H', rt := Q } (start N vs) H) : FnOk P w K mg base CX0 (k + 1) f fd ps sp := by
  obtain ⟨oc, od, kV, doc, pm, an, cdv, ct, osl, rfl, lk, hcd⟩ := F.ex
  refine fn_of lk hcd S len fun A outer s H vs Q E hr hsp => ?_
  obtain ⟨t, h, q⟩ := hbody cdv A outer s H vs Q E hr hsp
  exact ⟨t, h.nox, q⟩
/-- how its arguments bind (no defaults): h is «fun _ _ _ _ _ _ us hl => match us, hl with | [_, _], _ => rfl», one _ a parameter -/
theorem Fun.binds {x qual : Str} {st : Stmt} {f : Addr} {fd : FuncData} {ps : List Str} (F : Fun K x qual st f fd)
    (h : ∀ (kV doc pm : Value) (an : Option Addr) (cdv ct : Value) (us : List Value), us.length = ps.length → bindArgs (PySem.W.fnOf x qual (defArgs st) (defBody st) (defScope st) .none kV doc pm an cdv ct) ⟨us, []⟩ = pure (ps.zip us)) : Binds K fd ps [] := by
  obtain ⟨oc, od, kV, doc, pm, an, cdv, ct, osl, rfl, lk, hcd⟩ := F.ex
  exact .all (h kV doc pm an cdv ct)
theorem fun_mk {x qual : Str} {st : Stmt} {f : Addr} {oc : Value} {od an : Option Addr} {osl : Array (Option Value)} {kV doc pm cdv ct : Value} (l : K.lookup f = some ⟨oc, od, .func (PySem.W.fnOf x qual (defArgs st) (defBody st) (defScope st) .none kV doc pm an cdv ct), osl⟩)
    (c : PySem.W.codeIn K cdv qual = true) (k : PySem.W.keepIn K (.ref f) = true) : Fun K x qual st f (PySem.W.fnOf x qual (defArgs st) (defBody st) (defScope st) .none kV doc pm an cdv ct) := ⟨⟨oc, od, kV, doc, pm, an, cdv, ct, osl, rfl, l, c⟩, k⟩
end
theorem hu_of {A : Around} {k : Nat} (hr : Room k A) : A.units + 1 < cLine := Nat.lt_of_le_of_lt (Nat.add_le_add_left (by decide : 1 ≤ 64) _) hr.units
theorem small1000 {n : Nat} (h : n ≤ 1000) : n < sizeLine := Nat.lt_of_le_of_lt h (by decide)

/-! ### expressions in short: the name that stands in the i-th slot -/
section
variable {X : Cx}
theorem pv (i : Nat) {x : Str} {pos : Pos} (hN : X.N[i]? = some x := by rfl) (hv : Vis X.env.scope x := by first | exact Or.inl rfl | exact Or.inr (Or.inl rfl) | exact Or.inr (Or.inr rfl)) (hd : (x == ("__debug__" : Str)) = false := by decide)
    (hcd : (x == ("__classdict__" : Str)) = false := by decide) : PE X (.Name x pos) (tVar i) := pe_var hN hv hd hcd
end

/-! ### tests -/
theorem iteF {A B : Prop} (h : B) : if false = true then A else B := by
  rw [if_neg Bool.false_ne_true]
  exact h
theorem iteT {A B : Prop} (h : A) : if true = true then A else B := by
  rw [if_pos rfl]
  exact h
theorem ite2 {c A B : Prop} [Decidable c] (h1 : c → A) (h2 : ¬ c → B) : if c then A else B := by
  by_cases h : c
  · rw [if_pos h]
    exact h1 h
  · rw [if_neg h]
    exact h2 h
theorem iteNS {c A B : Prop} [Decidable c] (hc : c) (h : B) : if (!decide c) = true then A else B := by
  rw [decide_eq_true hc]
  exact iteF h

/-! ### heaps -/
/-- all that was tracked is as it was -/
def Same (H H' : Hp) : Prop := ∀ b o, H b = some o → H' b = some o
theorem Same.refl (H : Hp) : Same H H := fun _ _ h => h
theorem Same.trans {H H1 H2 : Hp} (a : Same H H1) (b : Same H1 H2) : Same H H2 := fun c o h => b c o (a c o h)
theorem Same.free {H H' : Hp} (e : Same H H') {l : Addr} (h : H' l = Option.none) : H l = Option.none := by
  cases q : H l with
  | none => rfl
  | some o =>
    rw [e l o q] at h
    cases h
theorem Same.seq {K : PySem.W.Frag} {H H' : Hp} {a : Addr} {xs : List V} (e : Same H H') (h : SqL K H a xs) : SqL K H' a xs := by
  rcases h with (h | ⟨o, h⟩) | h
  · exact .inl (.inl (e _ _ h))
  · exact .inl (.inr ⟨o, e _ _ h⟩)
  · exact .inr h

end L2
namespace L2
open PySem PySem.Spec PyProof.Rows

/-! ### lists of pairs as tables -/
section
variable {κ : Type} [DecidableEq κ]
def valV (kvs : List (κ × V)) (k : κ) : Option V := (kvs.find? fun kv => decide (kv.1 = k)).map (·.2)
/-- in its place, or at the end -/
def putK (kvs : List (κ × V)) (k : κ) (v : V) : List (κ × V) :=
  if (kvs.any fun kv => decide (kv.1 = k)) = true then kvs.map (fun kv => if kv.1 = k then (kv.1, v) else kv) else kvs ++ [(k, v)]
def dropK (kvs : List (κ × V)) (k : κ) : List (κ × V) := kvs.filter fun kv => decide (kv.1 ≠ k)

theorem valV_nil {k : κ} : valV ([] : List (κ × V)) k = none := rfl
theorem valV_pos {p : κ × V} {r : List (κ × V)} {k : κ} (e : p.1 = k) : valV (p :: r) k = some p.2 := by simp [valV, List.find?_cons, e]
theorem valV_neg {p : κ × V} {r : List (κ × V)} {k : κ} (e : ¬ p.1 = k) : valV (p :: r) k = valV r k := by simp [valV, List.find?_cons, e]
theorem valV_any (k : κ) : ∀ kvs : List (κ × V), (kvs.any fun kv => decide (kv.1 = k)) = (valV kvs k).isSome
  | [] => rfl
  | p :: r => by
    rw [List.any_cons]
    by_cases e : p.1 = k
    · simp only [valV_pos e, decide_eq_true e, Bool.true_or, Option.isSome_some]
    · rw [valV_neg e, decide_eq_false e, Bool.false_or]; exact valV_any k r
theorem valV_map (k j : κ) (y : V) : ∀ kvs : List (κ × V), valV (kvs.map fun kv => if kv.1 = k then (kv.1, y) else kv) j = (valV kvs j).map fun x => if j = k then y else x
  | [] => rfl
  | p :: r => by
    have ih := valV_map k j y r
    rw [List.map_cons]
    by_cases h : p.1 = k
    · rw [if_pos h]
      by_cases e : p.1 = j
      · rw [valV_pos (p := (p.1, y)) e, valV_pos e, Option.map_some, if_pos (e.symm.trans h)]
      · rw [valV_neg (p := (p.1, y)) e, valV_neg e, ih]
    · rw [if_neg h]
      by_cases e : p.1 = j
      · rw [valV_pos (p := p) e, valV_pos e, Option.map_some, if_neg (fun z => h (e.trans z))]
      · rw [valV_neg (p := p) e, valV_neg e, ih]
theorem valV_snoc (k j : κ) (y : V) : ∀ kvs : List (κ × V), valV kvs k = none → valV (kvs ++ [(k, y)]) j = if j = k then some y else valV kvs j
  | [], _ => by
    by_cases e : k = j
    · rw [if_pos e.symm]; exact valV_pos (p := (k, y)) e
    · rw [if_neg (fun z => e z.symm)]; exact valV_neg (p := (k, y)) e
  | p :: r, hn => by
    rw [List.cons_append]
    have hk : ¬ p.1 = k := fun z => by rw [valV_pos z] at hn; cases hn
    rw [valV_neg hk] at hn
    have ih := valV_snoc k j y r hn
    by_cases e : p.1 = j
    · rw [valV_pos e, valV_pos e, if_neg (fun z => hk (e.trans z))]
    · rw [valV_neg e, valV_neg e, ih]
theorem valV_put (kvs : List (κ × V)) (k j : κ) (y : V) : valV (putK kvs k y) j = if j = k then some y else valV kvs j := by
  unfold putK
  by_cases a : (kvs.any fun kv => decide (kv.1 = k)) = true
  · rw [if_pos a, valV_map]
    rw [valV_any] at a
    by_cases e : j = k
    · obtain ⟨x, hx⟩ := Option.isSome_iff_exists.mp a
      rw [if_pos e, e, hx, Option.map_some, if_pos rfl]
    · rw [if_neg e]
      cases valV kvs j with
      | none => rfl
      | some x => rw [Option.map_some, if_neg e]
  · rw [if_neg a]
    refine valV_snoc k j y kvs ?_
    rw [valV_any] at a
    cases q : valV kvs k with
    | none => rfl
    | some x => rw [q] at a; exact (a rfl).elim
theorem length_putK (kvs : List (κ × V)) (k : κ) (v : V) : (putK kvs k v).length ≤ kvs.length + 1 := by
  unfold putK
  split
  · rw [List.length_map]; omega
  · rw [List.length_append, List.length_cons, List.length_nil]; omega
theorem putK_new {kvs : List (κ × V)} {k : κ} (v : V) (h : valV kvs k = none) : putK kvs k v = kvs ++ [(k, v)] := by
  unfold putK
  rw [valV_any, h]
  exact if_neg (by decide)

theorem RelO.isSome_eq {o : Option V} {u : Option Value} (r : RelO o u) : o.isSome = u.isSome := by
  cases o with
  | none => cases u with
    | none => rfl
    | some _ => exact (show False from r).elim
  | some _ => cases u with
    | none => exact (show False from r).elim
    | some _ => rfl
theorem RelO.getD {o : Option V} {u : Option Value} {d : V} {d' : Value} (r : RelO o u) (rd : RelV d d') : RelV (o.getD d) (u.getD d') := by
  cases o with
  | none => cases u with
    | none => exact rd
    | some _ => exact (show False from r).elim
  | some _ => cases u with
    | none => exact (show False from r).elim
    | some _ => exact r

/-- raw tables of the same keys -/
theorem KV.val {kvs : List (κ × V)} {vs : List (κ × Value)} (r : KV kvs vs) (k : κ) : RelO (valV kvs k) (valueAt vs k) := by
  unfold KV at r
  induction r with
  | nil => exact True.intro
  | @cons p q ps qs h t ih =>
    obtain ⟨h1, h2⟩ := h
    by_cases e : p.1 = k
    · have e' : q.1 = k := h1.symm.trans e
      have b : valueAt (q :: qs) k = some q.2 := by simp [valueAt, List.find?_cons, e']
      rw [valV_pos e, b]; exact h2
    · have e' : ¬ q.1 = k := fun z => e (h1.trans z)
      have b : valueAt (q :: qs) k = valueAt qs k := by simp [valueAt, List.find?_cons, e']
      rw [valV_neg e, b]; exact ih
theorem KV.any {kvs : List (κ × V)} {vs : List (κ × Value)} (r : KV kvs vs) (k : κ) : (kvs.any fun kv => decide (kv.1 = k)) = vs.any fun kv => decide (kv.1 = k) := by
  unfold KV at r
  induction r with
  | nil => rfl
  | cons h t ih => rw [List.any_cons, List.any_cons, ih, h.1]
theorem KV.repl {kvs : List (κ × V)} {vs : List (κ × Value)} (r : KV kvs vs) (k : κ) {y : V} {u : Value} (ry : RelV y u) :
    KV (kvs.map fun kv => if kv.1 = k then (kv.1, y) else kv) (vs.map fun kv => if kv.1 = k then (kv.1, u) else kv) := by
  unfold KV at r ⊢
  induction r with
  | nil => exact .nil
  | @cons p q ps qs h t ih =>
    rw [List.map_cons, List.map_cons]
    refine .cons ?_ ih
    obtain ⟨h1, h2⟩ := h
    by_cases e : p.1 = k
    · rw [if_pos e, if_pos (h1.symm.trans e)]; exact ⟨h1, ry⟩
    · rw [if_neg e, if_neg (fun z => e (h1.trans z))]; exact ⟨h1, h2⟩
theorem KV.put {kvs : List (κ × V)} {vs : List (κ × Value)} (r : KV kvs vs) (k : κ) {y : V} {u : Value} (ry : RelV y u) : KV (putK kvs k y) (stored vs k u) := by
  unfold putK stored
  rw [r.any k]
  by_cases e : (vs.any fun kv => decide (kv.1 = k)) = true
  · rw [if_pos e, if_pos e]; exact r.repl k ry
  · rw [if_neg e, if_neg e]; exact Paired.snoc r ⟨rfl, ry⟩
theorem KV.drop {kvs : List (κ × V)} {vs : List (κ × Value)} (r : KV kvs vs) (k : κ) : KV (dropK kvs k) (without vs k) := by
  unfold KV at r ⊢
  unfold dropK without
  induction r with
  | nil => exact .nil
  | @cons p q ps qs h t ih =>
    obtain ⟨h1, h2⟩ := h
    rw [List.filter_cons, List.filter_cons]
    by_cases e : p.1 = k
    · have a : ¬ decide (p.1 ≠ k) = true := by simp [e]
      have b : ¬ decide (q.1 ≠ k) = true := by simp [h1.symm.trans e]
      rw [if_neg a, if_neg b]; exact ih
    · have e' : ¬ q.1 = k := fun z => e (h1.trans z)
      have a : decide (p.1 ≠ k) = true := by simp [e]
      have b : decide (q.1 ≠ k) = true := by simp [e']
      rw [if_pos a, if_pos b]; exact .cons ⟨h1, h2⟩ ih
theorem KV.keys {kvs : List (κ × V)} {vs : List (κ × Value)} (r : KV kvs vs) : kvs.map (·.1) = vs.map (·.1) := by
  unfold KV at r
  induction r with
  | nil => rfl
  | cons h t ih => rw [List.map_cons, List.map_cons, ih, h.1]
theorem KV.length {kvs : List (κ × V)} {vs : List (κ × Value)} (r : KV kvs vs) : kvs.length = vs.length := Paired.length r
theorem dropK_le (kvs : List (κ × V)) (k : κ) : (dropK kvs k).length ≤ kvs.length := List.length_filter_le _ _
end


/-! ### a tracked dict, its keys ints and texts or tuples of these -/
theorem kV_is {P : Program} {w : World} {k : Key} {u : Value} (r : RelV (kV k) u) : (mixKind P w).is k u = true := by
  cases k with
  | inl i => obtain ⟨t, e⟩ := (show ∃ t, u = Value.int i t from r); subst e; exact mixKind_int P w i t
  | inr x => obtain ⟨t, e⟩ := (show ∃ t, u = Value.str x t from r); subst e; exact mixKind_str P w x t
theorem kV_inj {a b : Key} (e : kV a = kV b) : a = b := by
  cases a with
  | inl i => cases b with
    | inl j => have e' : V.int i = V.int j := e; injection e' with e'; rw [e']
    | inr y => exact nomatch (show V.int i = V.str y from e)
  | inr x => cases b with
    | inl j => exact nomatch (show V.str x = V.int j from e)
    | inr y => have e' : V.str x = V.str y := e; injection e' with e'; rw [e']
theorem kVs_inj : ∀ {a b : List Key}, a.map kV = b.map kV → a = b
  | [], [], _ => rfl
  | [], _ :: _, e => by simp at e
  | _ :: _, [], e => by simp at e
  | x :: xs, y :: ys, e => by
    rw [List.map_cons, List.map_cons] at e
    injection e with e1 e2
    rw [kV_inj e1, kVs_inj e2]
theorem items_are {P : Program} {w : World} : ∀ {ks : List Key} {us : List Value}, Vals (ks.map kV) us → ItemsAre (mixKind P w) ks us
  | [], _, r => by rw [List.map_nil] at r; cases r; exact .nil
  | k :: ks, _, r => by
    rw [List.map_cons] at r
    cases r with
    | cons h t => exact .cons (kV_is h) (items_are t)

/-- raw entries of a dict with tuple keys -/
abbrev KT (H : Hp) : List (List Key × V) → List (List Key × Addr × Value) → Prop := Paired fun p q => p.1 = q.1 ∧ H q.2.1 = some (.tup (p.1.map kV)) ∧ RelV p.2 q.2.2
theorem KT.val {H : Hp} {kvs : List (List Key × V)} {xs : List (List Key × Addr × Value)} (r : KT H kvs xs) (k : List Key) : RelO (valV kvs k) ((atKey xs k).map (·.2)) := by
  induction r with
  | nil => exact True.intro
  | @cons p q ps qs h t ih =>
    obtain ⟨h1, _, h2⟩ := h
    by_cases e : p.1 = k
    · have e' : q.1 = k := h1.symm.trans e
      have b : atKey (q :: qs) k = some q.2 := by simp [atKey, List.find?_cons, e']
      rw [valV_pos e, b]; exact h2
    · have e' : ¬ q.1 = k := fun z => e (h1.trans z)
      have b : atKey (q :: qs) k = atKey qs k := by simp [atKey, List.find?_cons, e']
      rw [valV_neg e, b]; exact ih
theorem KT.repl {H : Hp} {kvs : List (List Key × V)} {xs : List (List Key × Addr × Value)} (r : KT H kvs xs) (k : List Key) {y : V} {u : Value} (ry : RelV y u) :
    KT H (kvs.map fun kv => if kv.1 = k then (kv.1, y) else kv) (xs.map (putAt k u)) := by
  induction r with
  | nil => exact .nil
  | @cons p q ps qs h t ih =>
    rw [List.map_cons, List.map_cons]
    refine .cons ?_ ih
    obtain ⟨h1, h2, h3⟩ := h
    unfold putAt
    by_cases e : p.1 = k
    · rw [if_pos e, if_pos (h1.symm.trans e)]; exact ⟨h1, h2, ry⟩
    · rw [if_neg e, if_neg (fun z => e (h1.trans z))]; exact ⟨h1, h2, h3⟩
theorem KT.put {H : Hp} {kvs : List (List Key × V)} {xs : List (List Key × Addr × Value)} (r : KT H kvs xs) (k : List Key) {b : Addr} {y : V} {u : Value} (hb : H b = some (.tup (k.map kV))) (ry : RelV y u) :
    KT H (putK kvs k y) (storedH xs k b u) := by
  have e : (kvs.any fun kv => decide (kv.1 = k)) = (atKey xs k).isSome := by
    rw [valV_any, (r.val k).isSome_eq, Option.isSome_map]
  unfold putK storedH
  rw [e]
  by_cases q : (atKey xs k).isSome = true
  · rw [if_pos q, if_pos q]; exact r.repl k ry
  · rw [if_neg q, if_neg q]; exact Paired.snoc r ⟨rfl, hb, ry⟩
theorem KT.keeps {H H' : Hp} {kvs : List (List Key × V)} {xs : List (List Key × Addr × Value)} (r : KT H kvs xs) (ht : ∀ b ys, H b = some (.tup ys) → H' b = some (.tup ys)) : KT H' kvs xs :=
  Paired.mapP r fun _ _ z => ⟨z.1, ht _ _ z.2.1, z.2.2⟩

section
variable {P : Program} {w : World} {H : Hp} {h : Heap} {a : Addr}
theorem rd_of {u : HO} (ok : HOk P w H h) (e : Rd H a u) : ObjOk P w H h a u := e.ok ok
theorem dk_rd {kvs : List (Key × V)} (ok : HOk P w H h) (e : Rd H a (.dK kvs)) : kvs.length ≤ sizeLine ∧ (a == sysModules) = false ∧ ∃ vs, KV kvs vs ∧ h.DictOf (mixKind P w) a vs :=
  show ObjOk P w H h a (.dK kvs) from rd_of ok e
theorem dk_of {kvs : List (Key × V)} (ok : HOk P w H h) (e : H a = some (.dK kvs)) : kvs.length ≤ sizeLine ∧ (a == sysModules) = false ∧ ∃ vs, KV kvs vs ∧ h.DictOf (mixKind P w) a vs := dk_rd ok (.inl e)
/-- a tracked tuple of ints and texts is a key -/
theorem key_of {ks : List Key} (ok : HOk P w H h) (e : H a = some (.tup (ks.map kV))) : (tupleKind (mixKind P w)).is h ks a := by
  obtain ⟨_, its, r, o, h1, h2, n, h3⟩ := (show ObjOk P w H h a (.tup (ks.map kV)) from ok a _ e)
  exact ⟨o, its.toArray, n, h1, h2, h3, by simpa using items_are r⟩
theorem dt_rd {kvs : List (List Key × V)} (ok : HOk P w H h) (e : Rd H a (.dT kvs)) : kvs.length ≤ sizeLine ∧ (a == sysModules) = false ∧
    ∃ xs, KT H kvs xs ∧ h.DictOfH (tupleKind (mixKind P w)) a xs := by
  obtain ⟨z, y, xs, r, o, es, ep, h1, h2, h3, h4, h5⟩ := (show ObjOk P w H h a (.dT kvs) from rd_of ok e)
  refine ⟨z, y, xs, r, o, es, ep, h1, h2, h3, h4, fun x hx => ?_, h5⟩
  have all : ∀ {l : List (List Key × V)} {m : List (List Key × Addr × Value)}, KT H l m → ∀ x ∈ m, (tupleKind (mixKind P w)).is h x.1 x.2.1 := by
    intro l m q
    induction q with
    | nil => intro x hx; exact nomatch hx
    | @cons p q ps qs hq t ih =>
      intro x hx
      rcases List.mem_cons.mp hx with e | hx
      · subst e
        exact key_of ok (by rw [← hq.1]; exact hq.2.1)
      · exact ih x hx
  exact all r x hx
theorem dt_of {kvs : List (List Key × V)} (ok : HOk P w H h) (e : H a = some (.dT kvs)) : kvs.length ≤ sizeLine ∧ (a == sysModules) = false ∧
    ∃ xs, KT H kvs xs ∧ h.DictOfH (tupleKind (mixKind P w)) a xs := dt_rd ok (.inl e)
end

/-- what the dict at a holds at the key y -/
def DGet (H : Hp) (a : Addr) (y : V) (r : Option V) : Prop :=
  (∃ kvs k, Rd H a (.dK kvs) ∧ y = kV k ∧ r = valV kvs k) ∨ ∃ kvs k b, Rd H a (.dT kvs) ∧ y = .ref b ∧ H b = some (.tup (k.map kV)) ∧ r = valV kvs k
/-- the heap behind a[y] = v -/
def DPut (H : Hp) (a : Addr) (y v : V) (H' : Hp) : Prop :=
  (∃ kvs k, H a = some (.dK kvs) ∧ y = kV k ∧ kvs.length < sizeLine ∧ H' = upd H a (.dK (putK kvs k v))) ∨
  ∃ kvs k b, H a = some (.dT kvs) ∧ y = .ref b ∧ H b = some (.tup (k.map kV)) ∧ kvs.length < sizeLine ∧ H' = upd H a (.dT (putK kvs k v))
theorem DGet.k {H : Hp} {a : Addr} {kvs : List (Key × V)} {k : Key} (e : H a = some (.dK kvs)) : DGet H a (kV k) (valV kvs k) := .inl ⟨kvs, k, .inl e, rfl, rfl⟩
theorem DGet.t {H : Hp} {a b : Addr} {kvs : List (List Key × V)} {k : List Key} (e : H a = some (.dT kvs)) (eb : H b = some (.tup (k.map kV))) : DGet H a (.ref b) (valV kvs k) := .inr ⟨kvs, k, b, .inl e, rfl, eb, rfl⟩
theorem DPut.k {H : Hp} {a : Addr} {kvs : List (Key × V)} {k : Key} {v : V} (e : H a = some (.dK kvs)) (hl : kvs.length < sizeLine) : DPut H a (kV k) v (upd H a (.dK (putK kvs k v))) := .inl ⟨kvs, k, e, rfl, hl, rfl⟩
theorem DPut.t {H : Hp} {a b : Addr} {kvs : List (List Key × V)} {k : List Key} {v : V} (e : H a = some (.dT kvs)) (eb : H b = some (.tup (k.map kV))) (hl : kvs.length < sizeLine) :
    DPut H a (.ref b) v (upd H a (.dT (putK kvs k v))) := .inr ⟨kvs, k, b, e, rfl, eb, hl, rfl⟩


section
variable {X : Cx} {pins : List (Addr × Obj)} {σ : St} {H : Hp} {s : Shared} {a : Addr} {y v : V} {u r : Value} {o : Option V} {A : Around} {E : Value → Shared → Prop}

theorem Inv.big (I : Inv X pins σ H s) : sysModules < s.heap.objs.size := by
  have h : mainGlobals < s.heap.objs.size := (I.mod.glob.keeps I.bk).lt
  exact Nat.lt_trans (by decide) h

/-- d[y], there -/
theorem d_getItem {Q : Value → Shared → Prop} (hu : A.units + 1 < cLine) (I : Inv X pins σ H s) (g : DGet H a y (some v)) (ry : RelV y u) (h : ∀ w' s', Inv X pins σ H s' → RelV v w' → Q w' s') :
    wpAny (model X.prog X.w) A (getItem (.ref a) u) Q E s := by
  rcases g with ⟨kvs, k, e, ey, l⟩ | ⟨kvs, k, b, e, ey, eb, l⟩
  · subst ey
    obtain ⟨z, hd, vs, rel, dd⟩ := dk_rd I.hok e
    obtain ⟨w', hw, rw'⟩ := RelO.some_of (v := v) (o := valueAt vs k) (by rw [l]; exact rel.val k)
    exact wpAny_getItem_of (kV_is ry) dd.mapOf hw (h w' _ (I.tok _) rw')
  · subst ey
    cases (show u = Value.ref b from ry)
    obtain ⟨z, hd, xs, rel, dd⟩ := dt_rd I.hok e
    obtain ⟨w', hw, rw'⟩ := RelO.some_of (v := v) (o := (atKey xs k).map (·.2)) (by rw [l]; exact rel.val k)
    obtain ⟨p, hp, hp2⟩ := Option.map_eq_some_iff.mp hw
    refine wpAny_getItem_heap (tupleKind_room_in1 hu) (key_of I.hok eb) dd hp ?_
    rw [hp2]
    exact h w' _ (I.tok _) rw'
/-- y in d -/
theorem d_in {Q : Value → Shared → Prop} (hu : A.units + 1 < cLine) (I : Inv X pins σ H s) (g : DGet H a y o) (ry : RelV y u) (h : ∀ s', Inv X pins σ H s' → Q (.bool o.isSome) s') :
    wpAny (model X.prog X.w) A (compareOp .In u (.ref a)) Q E s := by
  rcases g with ⟨kvs, k, e, ey, l⟩ | ⟨kvs, k, b, e, ey, eb, l⟩
  · subst ey
    obtain ⟨z, hd, vs, rel, dd⟩ := dk_rd I.hok e
    refine wpAny_in_of (kV_is ry) hd dd.mapOf ?_
    rw [← (rel.val k).isSome_eq, ← l]
    exact h _ (I.tok _)
  · subst ey
    cases (show u = Value.ref b from ry)
    obtain ⟨z, hd, xs, rel, dd⟩ := dt_rd I.hok e
    refine wpAny_in_heap (tupleKind_room_in1 hu) (key_of I.hok eb) hd dd ?_
    have q := (rel.val k).isSome_eq
    rw [Option.isSome_map] at q
    rw [← q, ← l]
    exact h _ (I.tok _)
theorem d_notIn {Q : Value → Shared → Prop} (hu : A.units + 1 < cLine) (I : Inv X pins σ H s) (g : DGet H a y o) (ry : RelV y u) (h : ∀ s', Inv X pins σ H s' → Q (.bool (!o.isSome)) s') :
    wpAny (model X.prog X.w) A (compareOp .NotIn u (.ref a)) Q E s := by
  rcases g with ⟨kvs, k, e, ey, l⟩ | ⟨kvs, k, b, e, ey, eb, l⟩
  · subst ey
    obtain ⟨z, hd, vs, rel, dd⟩ := dk_rd I.hok e
    refine wpAny_notIn_of (kV_is ry) hd dd.mapOf ?_
    rw [← (rel.val k).isSome_eq, ← l]
    exact h _ (I.tok _)
  · subst ey
    cases (show u = Value.ref b from ry)
    obtain ⟨z, hd, xs, rel, dd⟩ := dt_rd I.hok e
    refine wpAny_notIn_heap (tupleKind_room_in1 hu) (key_of I.hok eb) hd dd ?_
    have q := (rel.val k).isSome_eq
    rw [Option.isSome_map] at q
    rw [← q, ← l]
    exact h _ (I.tok _)
/-- a dict's object is replaced -/
theorem d_write {h' : Heap} {t' : Nat} {ob : HO} (I : Inv X pins σ H s) (mu : Mut (H a)) (hs : Heap.SameBut a s.heap h') (he : ∃ q, h'.get? a = some q) (new : ObjOk X.prog X.w (upd H a ob) h' a ob) :
    Inv X pins σ (upd H a ob) { s with heap := h', toks := t' } :=
  I.write (x := a) (e := a) mu (.inl rfl) (fun b q hb z => (hs.2 b hb).trans z) he new
theorem dk_new {P : Program} {w : World} {H' : Hp} {h' : Heap} {kvs : List (Key × V)} {vs : List (Key × Value)} (z : kvs.length ≤ sizeLine) (hd : (a == sysModules) = false) (rel : KV kvs vs) (dd : h'.DictOf (mixKind P w) a vs) :
    ObjOk P w H' h' a (.dK kvs) := ⟨z, hd, vs, rel, dd⟩
/-- d[y] = v -/
theorem d_setItem {H' : Hp} {Q : Unit → Shared → Prop} (hu : A.units + 1 < cLine) (I : Inv X pins σ H s) (g : DPut H a y v H') (ry : RelV y u) (rv : RelV v r) (h : ∀ s', Inv X pins σ H' s' → Q () s') :
    wpAny (model X.prog X.w) A (setItem (.ref a) u r) Q E s := by
  rcases g with ⟨kvs, k, e, ey, l, eH⟩ | ⟨kvs, k, b, e, ey, eb, l, eH⟩
  · subst ey eH
    obtain ⟨z, hd, vs, rel, dd⟩ := dk_of I.hok e
    have hz : vs.length ≤ sizeLine := by rw [← rel.length]; exact z
    have hl : (putK kvs k v).length ≤ sizeLine := by have := length_putK kvs k v; omega
    refine wpAny_setItem_pairs (hsz := hz) (kV_is ry) dd fun h' dd' hs => h _ ?_
    have he : ∃ q, h'.get? a = some q := let ⟨q, _, _, hq, _⟩ := dd'; ⟨q, hq⟩
    exact d_write I (by rw [e]; exact True.intro) hs he (dk_new hl hd (rel.put k rv) dd')
  · subst ey eH
    cases (show u = Value.ref b from ry)
    obtain ⟨z, hd, xs, rel, dd⟩ := dt_of I.hok e
    have hz : xs.length ≤ sizeLine := by rw [← Paired.length rel]; exact z
    have hl : (putK kvs k v).length ≤ sizeLine := by have := length_putK kvs k v; omega
    refine wpAny_setItem_heap (hsz := hz) (tupleKind_room_in1 hu) (key_of I.hok eb) dd fun h' dd' hs => h _ ?_
    obtain ⟨q, es, ep, hq, h2, h3, h4, _, h5⟩ := dd'
    refine d_write I (by rw [e]; exact True.intro) hs ⟨q, hq⟩ ⟨hl, hd, _, (rel.put k eb rv).keeps fun c ys ec => ?_, q, es, ep, hq, h2, h3, h4, h5⟩
    rw [upd_ne (ne_of ec e (fun z => nomatch z))]
    exact ec
end

section
variable {X : Cx} {pins : List (Addr × Obj)} {σ : St} {H : Hp} {s : Shared} {a : Addr} {kvs : List (Key × V)} {k : Key} {u : Value} {A : Around} {E : Value → Shared → Prop}
/-- del d[k] -/
theorem d_delItem {Q : Unit → Shared → Prop} (I : Inv X pins σ H s) (e : H a = some (.dK kvs)) (ry : RelV (kV k) u) (l : (valV kvs k).isSome = true) (h : ∀ s', Inv X pins σ (upd H a (.dK (dropK kvs k))) s' → Q () s') :
    wpAny (model X.prog X.w) A (delItem (.ref a) u) Q E s := by
  obtain ⟨z, hd, vs, rel, dd⟩ := dk_of I.hok e
  refine wpAny_delItem_slot dd.typeIs (by decide) PySem.F.slot_dict_delitem
    (call_meetsIn PySem.F.slot_dict_delitem dd.typeIs PySem.F.entry_dict_delitem (PySem.F.args_dict_delitem_2 _ _) (meets_dict_delitem_pairs (mixKind X.prog X.w) a (kV_is ry)) ⟨vs, dd, by rw [← rel.length]; exact z, by rw [← (rel.val k).isSome_eq]; exact l, fun h' dd' hs => h _ ?_⟩)
  have he : ∃ q, h'.get? a = some q := let ⟨q, _, _, hq, _⟩ := dd'; ⟨q, hq⟩
  exact d_write I (by rw [e]; exact True.intro) hs he (dk_new (Nat.le_trans (dropK_le kvs k) z) hd (rel.drop k) dd')
/-- d.pop(k[, x]), there -/
theorem d_pop {v : V} {more : List Value} {Q : Value → Shared → Prop} (I : Inv X pins σ H s) (e : H a = some (.dK kvs)) (ry : RelV (kV k) u) (l : valV kvs k = some v) (hm : more = [] ∨ ∃ x, more = [x])
    (h : ∀ w' s', Inv X pins σ (upd H a (.dK (dropK kvs k))) s' → RelV v w' → Q w' s') : wpAny (model X.prog X.w) A (call (.builtin "dict.pop") (.ref a :: u :: more)) Q E s := by
  obtain ⟨z, hd, vs, rel, dd⟩ := dk_of I.hok e
  obtain ⟨w', hw, rw'⟩ := RelO.some_of (v := v) (o := valueAt vs k) (by rw [← l]; exact rel.val k)
  have hp : (keyPart u).isSome = true := by
    cases k with
    | inl i => obtain ⟨t, q⟩ := (show ∃ t, u = Value.int i t from ry); subst q; rfl
    | inr x => obtain ⟨t, q⟩ := (show ∃ t, u = Value.str x t from ry); subst q; rfl
  have ha : argsOk "dict.pop" ⟨.ref a :: u :: more, []⟩ := by
    rcases hm with q | ⟨x, q⟩
    · subst q; exact PySem.F.args_dict_pop_2 _ _
    · subst q; exact PySem.F.args_dict_pop_3 _ _ _
  refine call_meetsIn PySem.F.slot_dict_pop dd.typeIs PySem.F.entry_dict_pop ha (meets_dict_pop_there (mixKind X.prog X.w) a (kV_is ry) more hm hp)
    ⟨vs, w', dd, by rw [← rel.length]; exact z, hw, fun h' dd' hs => h w' _ ?_ rw'⟩
  have he : ∃ q, h'.get? a = some q := let ⟨q, _, _, hq, _⟩ := dd'; ⟨q, hq⟩
  exact d_write I (by rw [e]; exact True.intro) hs he (dk_new (Nat.le_trans (dropK_le kvs k) z) hd (rel.drop k) dd')
/-- d.pop(k, x), not there -/
theorem d_popD {r : Value} {Q : Value → Shared → Prop} (I : Inv X pins σ H s) (e : H a = some (.dK kvs)) (ry : RelV (kV k) u) (l : valV kvs k = none) (h : ∀ s', Inv X pins σ H s' → Q r s') :
    wpAny (model X.prog X.w) A (call (.builtin "dict.pop") [.ref a, u, r]) Q E s := by
  obtain ⟨z, hd, vs, rel, dd⟩ := dk_of I.hok e
  have hn : valueAt vs k = none := RelO.none_of (by rw [← l]; exact rel.val k)
  have hp : (keyPart u).isSome = true := by
    cases k with
    | inl i => obtain ⟨t, q⟩ := (show ∃ t, u = Value.int i t from ry); subst q; rfl
    | inr x => obtain ⟨t, q⟩ := (show ∃ t, u = Value.str x t from ry); subst q; rfl
  exact call_meetsIn PySem.F.slot_dict_pop dd.typeIs PySem.F.entry_dict_pop (PySem.F.args_dict_pop_3 _ _ _) (meets_dict_pop_default (mixKind X.prog X.w) a (kV_is ry) hd hp r) ⟨vs, dd, hn, h _ (I.tok _)⟩
/-- d.clear() -/
theorem d_clear {Q : Value → Shared → Prop} (I : Inv X pins σ H s) (e : H a = some (.dK kvs)) (h : ∀ s', Inv X pins σ (upd H a (.dK [])) s' → Q .none s') : wpAny (model X.prog X.w) A (call (.builtin "dict.clear") [.ref a]) Q E s := by
  obtain ⟨z, hd, vs, rel, dd⟩ := dk_of I.hok e
  refine call_meetsIn PySem.F.slot_dict_clear dd.typeIs PySem.F.entry_dict_clear (PySem.F.args_dict_clear_1 _) (meets_dict_clear (mixKind X.prog X.w) a) ⟨vs, dd, by rw [← rel.length]; exact z, fun h' dd' hs => h _ ?_⟩
  have he : ∃ q, h'.get? a = some q := let ⟨q, _, _, hq, _⟩ := dd'; ⟨q, hq⟩
  exact d_write (t' := s.toks) I (by rw [e]; exact True.intro) hs he (dk_new (Nat.zero_le _) hd .nil dd')
/-- len(d) -/
theorem d_len {Q : Value → Shared → Prop} (I : Inv X pins σ H s) (e : Rd H a (.dK kvs)) (h : ∀ t s', Inv X pins σ H s' → Q (.int kvs.length t) s') : wpAny (model X.prog X.w) A (call (.builtin "len") [.ref a]) Q E s := by
  obtain ⟨z, hd, vs, rel, dd⟩ := dk_rd I.hok e
  refine call_len_dict hd dd (by rw [← rel.length]; rw [sizeLine_eq] at z; omega) ?_
  rw [← rel.length]
  exact h _ _ (I.tok _)
/-- if d -/
theorem d_truth {Q : Bool → Shared → Prop} (I : Inv X pins σ H s) (e : Rd H a (.dK kvs)) (h : ∀ s', Inv X pins σ H s' → Q (!kvs.isEmpty) s') : wpAny (model X.prog X.w) A (truthy (.ref a)) Q E s := by
  obtain ⟨z, hd, vs, rel, dd⟩ := dk_rd I.hok e
  refine wpAny_truthy_dict hd dd (by rw [← rel.length]; rw [sizeLine_eq] at z; omega) ?_
  have q : kvs.isEmpty = vs.isEmpty := by cases rel <;> rfl
  rw [← q]
  exact h _ (I.tok _)
end


/-! ### readings and rules -/
/-- the element of a subscription, not a slice -/
def NoSl (i : Expr) : Prop := ∀ ov iv, subscripted i false ov iv = operate [ov, iv] (getItem ov iv)
theorem subD_of {prog : Program} {w : World} {A : Around} {E : Value → Shared → Prop} {s : Shared} {env : Env} {value slice : Expr} {pos : Pos} {T id : String} {Q : Value → Shared → Prop}
    (hl : typeLookup (.type T) "__getitem__" = pure (some (.builtin id))) (hs : NoSl slice)
    (h : wpAny (model prog w) A (eval value env) (fun o s₁ => wpAny (model prog w) A (eval slice env) (fun i s₂ => s₂.TypeIs o T ∧ wpAny (model prog w) A (getItem o i) Q E s₂) E s₁) E s) :
    wpAny (model prog w) A (eval (.Subscript value slice pos) env) Q E s := by
  refine Subscript_ (wpAny_mono h (fun o s₁ h₁ => wpAny_mono h₁ (fun i s₂ h₂ => ?_) fun _ _ x => x) fun _ _ x => x)
  obtain ⟨hT, h₂⟩ := h₂
  unfold subscriptTail
  refine wpAny_bind ?_
  rw [getitemInPython_of_ne hT.not_modules]
  refine wpAny_bind (wpAny_specialOf hT hl ?_)
  have fin : wpAny (model prog w) A (subscripted slice false o i) (fun r s₃ => wpAny (model prog w) A (letTemporaryGo value o r >>= fun _ => pure r) Q E s₃) E s₂ := by
    rw [hs o i]
    exact wpAny_operating (wpAny_mono h₂ (fun r s₃ h₃ => wpAny_bind (wpAny_letTemporaryGo (wpAny_pure h₃))) fun _ _ x => x)
  first
    | exact wpAny_pure (wpAny_bind fin)
    | exact wpAny_bind (wpAny_pure (wpAny_bind fin))
    | exact wpAny_bind fin

theorem dict_typeIs {X : Cx} {pins : List (Addr × Obj)} {σ : St} {H : Hp} {s : Shared} {a : Addr} {y : V} {o : Option V} (I : Inv X pins σ H s) (g : DGet H a y o) : s.TypeIs (.ref a) "dict" := by
  rcases g with ⟨kvs, k, e, _, _⟩ | ⟨kvs, k, b, e, _, _, _⟩
  · obtain ⟨_, _, vs, _, dd⟩ := dk_rd I.hok e
    exact dd.typeIs
  · obtain ⟨_, _, xs, _, dd⟩ := dt_rd I.hok e
    exact dd.typeIs
theorem dict_noDict {X : Cx} {pins : List (Addr × Obj)} {σ : St} {H : Hp} {s : Shared} {a : Addr} {y : V} {o : Option V} (I : Inv X pins σ H s) (g : DGet H a y o) :
    ∀ b, Value.ref a = .ref b → ∃ ob, s.heap.get? b = some ob ∧ ob.dict = none := fun b q => by
  cases q
  rcases g with ⟨kvs, k, e, _, _⟩ | ⟨kvs, k, b, e, _, _, _⟩
  · obtain ⟨_, _, vs, _, ob, _, _, h1, h2, _⟩ := dk_rd I.hok e
    exact ⟨ob, h1, h2.2.1⟩
  · obtain ⟨_, _, xs, _, ob, _, _, h1, h2, _⟩ := dt_rd I.hok e
    exact ⟨ob, h1, h2.2.1⟩

/-- d[y] -/
def tDGet (td ty : TE) : TE := fun σ H Q => td σ H fun x H1 => ty σ H1 fun y H2 => ∃ a v, x = .ref a ∧ DGet H2 a y (some v) ∧ Q v H2
/-- y in d, y not in d -/
def tDIn (ty td : TE) : TE := fun σ H Q => ty σ H fun y H1 => td σ H1 fun x H2 => ∃ a o, x = .ref a ∧ DGet H2 a y o ∧ Q (.bl o.isSome) H2
def tDNotIn (ty td : TE) : TE := fun σ H Q => ty σ H fun y H1 => td σ H1 fun x H2 => ∃ a o, x = .ref a ∧ DGet H2 a y o ∧ Q (.bl (!o.isSome)) H2
/-- d[y] = v -/
def sDPut (td ty tv : TE) : TS := fun D σ H => tv σ H fun v H1 => td σ H1 fun x H2 => ty σ H2 fun y H3 => ∃ a H4, x = .ref a ∧ DPut H3 a y v H4 ∧ D.nx σ H4
/-- d[y] op= v -/
def sDAug (td ty tv : TE) (rd : V → V → Hp → VK → Prop) : TS := fun D σ H => td σ H fun x H1 => ty σ H1 fun y H2 => ∃ a v, x = .ref a ∧ DGet H2 a y (some v) ∧
  tv σ H2 fun y2 H3 => rd v y2 H3 fun z H4 => ∃ H5, DPut H4 a y z H5 ∧ D.nx σ H5
/-- del d[y] -/
def sDDel (td ty : TE) : TS := fun D σ H => td σ H fun x H1 => ty σ H1 fun y H2 => ∃ a kvs k, x = .ref a ∧ H2 a = some (.dK kvs) ∧ y = kV k ∧ (valV kvs k).isSome = true ∧ D.nx σ (upd H2 a (.dK (dropK kvs k)))

section
variable {X : Cx} {o i e value : Expr} {pos pos' tpos : Pos} {td ty tv : TE}
theorem pe_dget (hu : X.A.units + 1 < cLine) (ho : PE X o td) (hi : PE X i ty) (hs : NoSl i) : PE X (.Subscript o i pos) (tDGet td ty) := by
  intro pins s σ H Q I h
  refine subD_of PySem.F.slot_dict_getitem.lookup hs (thn (ho pins s σ H _ I h) fun u s1 ⟨x, H1, I1, rx, q1⟩ => thn (hi pins s1 σ H1 _ I1 q1) fun iv s2 ⟨y, H2, I2, ry, a, v, ex, g, q2⟩ => ?_)
  subst ex
  obtain rfl : u = Value.ref a := rx
  exact ⟨dict_typeIs I2 g, d_getItem hu I2 g ry fun w' s3 I3 rw' => ⟨v, H2, I3, rw', q2⟩⟩
theorem pc_din (hu : X.A.units + 1 < cLine) (hi : PE X i ty) (ho : PE X o td) : PC X .In i o (tDIn ty td) := by
  intro pins s σ H Q I h
  refine thn (hi pins s σ H _ I h) fun iv s1 ⟨y, H1, I1, ry, q1⟩ => thn (ho pins s1 σ H1 _ I1 q1) fun u s2 ⟨x, H2, I2, rx, a, ov, ex, g, q2⟩ => ?_
  subst ex
  obtain rfl : u = Value.ref a := rx
  exact d_in hu I2 g ry fun s3 I3 => ⟨.bl ov.isSome, H2, I3, rfl, q2⟩
theorem pc_dnotin (hu : X.A.units + 1 < cLine) (hi : PE X i ty) (ho : PE X o td) : PC X .NotIn i o (tDNotIn ty td) := by
  intro pins s σ H Q I h
  refine thn (hi pins s σ H _ I h) fun iv s1 ⟨y, H1, I1, ry, q1⟩ => thn (ho pins s1 σ H1 _ I1 q1) fun u s2 ⟨x, H2, I2, rx, a, ov, ex, g, q2⟩ => ?_
  subst ex
  obtain rfl : u = Value.ref a := rx
  exact d_notIn hu I2 g ry fun s3 I3 => ⟨.bl (!ov.isSome), H2, I3, rfl, q2⟩
theorem ps_dput (hu : X.A.units + 1 < cLine) (ho : PE X o td) (hi : PE X i ty) (hv : PE X value tv) (hs : swapsWith value (some (.Subscript o i pos')) pos.line X.env = pure false) :
    PS X (.Assign [.Subscript o i pos'] value pos) (sDPut td ty tv) := by
  intro pins s σ H D I h
  refine wpAny_Assign_Subscript (thn (hv pins s σ H _ I h) fun r s1 ⟨v, H1, I1, rv, q1⟩ => thn (ho pins s1 σ H1 _ I1 q1) fun u s2 ⟨x, H2, I2, rx, q2⟩ => thn (hi pins s2 σ H2 _ I2 q2) fun iv s3 ⟨y, H3, I3, ry, a, H4, ex, g, q3⟩ => ?_) hs
  subst ex
  obtain rfl : u = Value.ref a := rx
  exact d_setItem hu I3 g ry rv fun s4 I4 => ⟨σ, H4, I4, q3⟩
theorem ps_daug {op : Operator} {rd : V → V → Hp → VK → Prop} (hu : X.A.units + 1 < cLine) (ho : PE X o td) (hi : PE X i ty) (hv : PE X value tv) (hop : InOp X op rd)
    (ha : ∀ ov iv new, augStore i ov iv new = (do holding [new, ov, iv] (setItem ov iv new); release [new, ov, iv] []; pure .next)) : PS X (.AugAssign (.Subscript o i tpos) op value pos) (sDAug td ty tv rd) := by
  intro pins s σ H D I h
  refine wpAny_AugAssign_SubscriptAny (thn (ho pins s σ H _ I h) fun u s1 ⟨x, H1, I1, rx, q1⟩ => thn (hi pins s1 σ H1 _ I1 q1) fun iv s2 ⟨y, H2, I2, ry, a, v, ex, g, q2⟩ => ?_) ha
  subst ex
  obtain rfl : u = Value.ref a := rx
  refine d_getItem hu I2 g ry fun w' s3 I3 rw' => thn (hv pins s3 σ H2 _ I3 q2) fun w2 s4 ⟨y2, H3, I4, ry2, q3⟩ => thn (hop pins s4 σ H3 v y2 w' w2 _ I4 rw' ry2 q3) fun w3 s5 ⟨z, H4, I5, rz, H5, g5, q4⟩ => ?_
  exact d_setItem hu I5 g5 ry rz fun s6 I6 => ⟨σ, H5, I6, q4⟩
theorem ps_ddel (ho : PE X o td) (hi : PE X i ty) : PS X (.Delete [.Subscript o i tpos] pos) (sDDel td ty) := by
  intro pins s σ H D I h
  refine wpAny_Delete (wpAny_deleteEach_cons (wpAny_delete_Subscript (thn (ho pins s σ H _ I h) fun u s1 ⟨x, H1, I1, rx, q1⟩ => thn (hi pins s1 σ H1 _ I1 q1) fun iv s2 ⟨y, H2, I2, ry, a, kvs, k, ex, e, ey, l, q2⟩ => ?_)))
  subst ex ey
  obtain rfl : u = Value.ref a := rx
  exact d_delItem I2 e ry l fun s3 I3 => wpAny_deleteEach_nil ⟨σ, _, I3, q2⟩
end


/-! ### displays -/
theorem dk_empty {P : Program} {w : World} {H : Hp} (h : Heap) (hb : sysModules < h.objs.size) : ObjOk P w H (h.push { cls := .type "dict", data := .dict #[] }) h.objs.size (.dK []) :=
  ⟨Nat.zero_le _, beq_eq_false_iff_ne.mpr (Ne.symm (Nat.ne_of_lt hb)), [], .nil, Heap.DictOf.new h⟩
theorem dt_empty {P : Program} {w : World} {H : Hp} (h : Heap) (hb : sysModules < h.objs.size) : ObjOk P w H (h.push { cls := .type "dict", data := .dict #[] }) h.objs.size (.dT []) :=
  ⟨Nat.zero_le _, beq_eq_false_iff_ne.mpr (Ne.symm (Nat.ne_of_lt hb)), [], .nil, _, #[], 0, Heap.get?_push_size _ rfl, ⟨rfl, rfl, rfl⟩, rfl, rfl, List.nodup_nil⟩
/-- {}, to be a dict of the kind that is wanted -/
def tDNewK : TE := fun _ H Q => ∀ p, H p = none → Q (.ref p) (upd H p (.dK []))
def tDNewT : TE := fun _ H Q => ∀ p, H p = none → Q (.ref p) (upd H p (.dT []))
section
variable {X : Cx} {pos : Pos}
theorem pe_dnewK : PE X (.Dict [] [] pos) tDNewK := fun pins s σ H Q I h =>
  wpAny_Dict_empty ⟨.ref s.heap.objs.size, _, I.laid (a := s.heap.objs.size) (o := .dK []) (t' := s.toks) (fun _ _ q => Heap.get?_push_of_some _ q) (Nat.le_refl _) (dk_empty s.heap I.big), rfl, h _ (I.hok.fresh (Nat.le_refl _))⟩
theorem pe_dnewT : PE X (.Dict [] [] pos) tDNewT := fun pins s σ H Q I h =>
  wpAny_Dict_empty ⟨.ref s.heap.objs.size, _, I.laid (a := s.heap.objs.size) (o := .dT []) (t' := s.toks) (fun _ _ q => Heap.get?_push_of_some _ q) (Nat.le_refl _) (dt_empty s.heap I.big), rfl, h _ (I.hok.fresh (Nat.le_refl _))⟩
end

/-- the pairs of a display, from the left -/
def tPairs : List (TE × TE) → St → Hp → (List (V × V) → Hp → Prop) → Prop
  | [], _, H, Q => Q [] H
  | (tk, tv) :: r, σ, H, Q => tk σ H fun x H1 => tv σ H1 fun y H2 => tPairs r σ H2 fun ps H3 => Q ((x, y) :: ps) H3
abbrev VV : List (V × V) → List (Value × Value) → Prop := Paired fun p q => RelV p.1 q.1 ∧ RelV p.2 q.2
def PPs (X : Cx) (pos : Pos) (keys : List (Option Expr)) (values : List Expr) (trs : List (TE × TE)) : Prop :=
  ∀ (pins : List (Addr × Obj)) (s : Shared) (σ : St) (H : Hp) (Q : List (V × V) → Hp → Prop), Inv X pins σ H s → tPairs trs σ H Q →
    wpAny (model X.prog X.w) X.A (evalPairs (pairTrees keys values X.env pos)) (fun vs s' => ∃ ps H', Inv X pins σ H' s' ∧ VV ps vs ∧ Q ps H') X.xe s
theorem pps_nil {X : Cx} {pos : Pos} : PPs X pos [] [] [] := fun pins s σ H Q I h => pairTrees_nil_walk ⟨[], H, I, .nil, h⟩
theorem pps_cons {X : Cx} {pos : Pos} {k v : Expr} {ks : List (Option Expr)} {vs : List Expr} {tk tv : TE} {trs : List (TE × TE)} (hk : PE X k tk) (hv : PE X v tv) (hr : PPs X pos ks vs trs) :
    PPs X pos (some k :: ks) (v :: vs) ((tk, tv) :: trs) := fun pins s σ H Q I h =>
  pairTrees_cons_walk (thn (hk pins s σ H _ I h) fun u s1 ⟨x, H1, I1, rx, q1⟩ => thn (hv pins s1 σ H1 _ I1 q1) fun w2 s2 ⟨y, H2, I2, ry, q2⟩ =>
    thn (hr pins s2 σ H2 _ I2 q2) fun ws s3 ⟨ps, H3, I3, rel, q3⟩ => ⟨(x, y) :: ps, H3, I3, .cons ⟨rx, ry⟩ rel, q3⟩)

def mergeK (kvs more : List (Key × V)) : List (Key × V) := more.foldl (fun acc kv => putK acc kv.1 kv.2) kvs
theorem KV.merge : ∀ {more : List (Key × V)} {rs : List (Key × Value)} {kvs : List (Key × V)} {vs : List (Key × Value)}, KV more rs → KV kvs vs → KV (mergeK kvs more) (merged vs rs) := by
  intro more rs kvs vs r
  unfold KV at r
  induction r generalizing kvs vs with
  | nil => intro q; exact q
  | @cons p q ps qs h t ih =>
    intro r0
    have e : KV (putK kvs p.1 p.2) (stored vs q.1 q.2) := by
      have := r0.put p.1 h.2
      rw [← h.1]; exact this
    exact ih e
theorem length_mergeK : ∀ (more kvs : List (Key × V)), (mergeK kvs more).length ≤ kvs.length + more.length
  | [], kvs => by show kvs.length ≤ kvs.length + 0; omega
  | p :: r, kvs => by
    have h1 := length_mergeK r (putK kvs p.1 p.2)
    have h2 := length_putK kvs p.1 p.2
    show (mergeK (putK kvs p.1 p.2) r).length ≤ _
    rw [List.length_cons]; omega
theorem carries_of {P : Program} {w : World} : ∀ {kvs : List (Key × V)} {ws : List (Value × Value)}, VV (kvs.map fun kv => (kV kv.1, kv.2)) ws → ∃ rs, Carries (mixKind P w) ws rs ∧ KV kvs rs
  | [], _, r => by rw [List.map_nil] at r; cases r; exact ⟨[], True.intro, .nil⟩
  | p :: kvs, _, r => by
    rw [List.map_cons] at r
    cases r with
    | @cons a b as bs h t =>
      obtain ⟨rs, c, q⟩ := carries_of (P := P) (w := w) t
      obtain ⟨b1, b2⟩ := b
      exact ⟨(p.1, b2) :: rs, ⟨kV_is h.1, rfl, c⟩, .cons ⟨rfl, h.2⟩ q⟩
/-- {k: v, ..} with keys ints and texts; the new dict stands empty while the pairs are made -/
def tDisp (trs : List (TE × TE)) : TE := fun σ H Q => ∀ p, H p = none → tPairs trs σ (upd H p (.dK [])) fun ps H2 => H2 p = some (.dK []) ∧ ∃ kvs : List (Key × V), ps = kvs.map (fun kv => (kV kv.1, kv.2)) ∧ kvs.length ≤ 15 ∧ Q (.ref p) (upd H2 p (.dK (mergeK [] kvs)))
theorem pe_disp {X : Cx} {pos : Pos} {keys : List (Option Expr)} {values : List Expr} {trs : List (TE × TE)} (h : PPs X pos keys values trs) (hall : keys.all (·.isSome) = true) (hl : keys.length = values.length) (h0 : keys ≠ [])
    (h15 : keys.length ≤ 15) : PE X (.Dict keys values pos) (tDisp trs) := by
  intro pins s σ H Q I q
  have hn := I.hok.fresh (Nat.le_refl s.heap.objs.size)
  have I1 := I.laid (a := s.heap.objs.size) (o := .dK []) (h' := s.heap.push { cls := .type "dict", data := .dict #[] }) (t' := s.toks) (fun _ _ q => Heap.get?_push_of_some _ q) (Nat.le_refl _) (dk_empty s.heap I.big)
  refine wpAny_Dict_walk (knd := mixKind X.prog X.w) hall hl h0 h15 (thn (h pins _ σ _ _ I1 (q _ hn)) fun ws s2 ⟨ps, H2, I2, rel, e, kvs, ep, lk, q2⟩ => ?_)
  subst ep
  obtain ⟨rs, c, rk⟩ := carries_of (P := X.prog) (w := X.w) rel
  obtain ⟨z, hd, vs0, r0, dd⟩ := dk_of I2.hok e
  cases r0
  refine ⟨rs, c, dd, fun h' dd' hs => ⟨.ref s.heap.objs.size, _, ?_, rfl, q2⟩⟩
  have hz : (mergeK [] kvs).length ≤ sizeLine := by
    have h1 := length_mergeK kvs []
    rw [List.length_nil] at h1
    rw [sizeLine_eq]; omega
  have he : ∃ q, h'.get? s.heap.objs.size = some q := let ⟨q, _, _, hq, _⟩ := dd'; ⟨q, hq⟩
  exact d_write I2 (by rw [e]; exact True.intro) hs he (dk_new hz hd (rk.merge .nil) dd')


/-! ### methods -/
/-- a method call o.m(e) of a built-in, with one argument: what must be seen of the text -/
structure M1 (X : Cx) (o : Expr) (m : Str) (apos : Pos) (e : Expr) (cpos : Pos) : Prop where
  base : attributeBase o m X.env (eval o X.env) = eval o X.env
  few : ((backTo cpos (starEach [e] X.env)).all (fun x => !x.1) && (backToKw cpos (keywordEach [] X.env)).all (fun x => x.1.isSome)
    && decide (([e] : List Expr).length + ([] : List Keyword).length + (if ([] : List Keyword).isEmpty then 0 else 1) < 30)) = true
  line : (apos.endLine == cpos.line) = true
  trees : backTo cpos (starEach [e] X.env) = [(false, eval e X.env)]
structure M2 (X : Cx) (o : Expr) (m : Str) (apos : Pos) (e f : Expr) (cpos : Pos) : Prop where
  base : attributeBase o m X.env (eval o X.env) = eval o X.env
  few : ((backTo cpos (starEach [e, f] X.env)).all (fun x => !x.1) && (backToKw cpos (keywordEach [] X.env)).all (fun x => x.1.isSome)
    && decide (([e, f] : List Expr).length + ([] : List Keyword).length + (if ([] : List Keyword).isEmpty then 0 else 1) < 30)) = true
  line : (apos.endLine == cpos.line) = true
  trees : backTo cpos (starEach [e, f] X.env) = [(false, eval e X.env), (false, eval f X.env)]

/-- a is a dict, whatever its keys -/
def IsD (H : Hp) (a : Addr) : Prop := (∃ kvs, Rd H a (.dK kvs)) ∨ ∃ kvs, Rd H a (.dT kvs)
theorem isD_at {X : Cx} {pins : List (Addr × Obj)} {σ : St} {H : Hp} {s : Shared} {a : Addr} (I : Inv X pins σ H s) (d : IsD H a) :
    s.TypeIs (.ref a) "dict" ∧ (∀ b, Value.ref a = .ref b → ∃ ob, s.heap.get? b = some ob ∧ ob.dict = none) ∧ (a == sysModules) = false := by
  rcases d with ⟨kvs, e⟩ | ⟨kvs, e⟩
  · obtain ⟨_, hd, vs, _, dd⟩ := dk_rd I.hok e
    refine ⟨dd.typeIs, fun b q => ?_, hd⟩
    cases q
    obtain ⟨ob, _, _, h1, h2, _⟩ := dd
    exact ⟨ob, h1, h2.2.1⟩
  · obtain ⟨_, hd, xs, _, dd⟩ := dt_rd I.hok e
    refine ⟨dd.typeIs, fun b q => ?_, hd⟩
    cases q
    obtain ⟨ob, _, _, h1, h2, _⟩ := dd
    exact ⟨ob, h1, h2.2.1⟩

section
variable {X : Cx} {pins : List (Addr × Obj)} {σ : St} {H : Hp} {s : Shared} {a : Addr} {y d : V} {u r : Value} {o : Option V} {A : Around} {E : Value → Shared → Prop}
/-- d.get(y) -/
theorem d_get1 {Q : Value → Shared → Prop} (hu : A.units + 1 < cLine) (I : Inv X pins σ H s) (g : DGet H a y o) (ry : RelV y u) (h : ∀ w' s', Inv X pins σ H s' → RelV (o.getD .non) w' → Q w' s') :
    wpAny (model X.prog X.w) A (call (.builtin "dict.get") [.ref a, u]) Q E s := by
  rcases g with ⟨kvs, k, e, ey, l⟩ | ⟨kvs, k, b, e, ey, eb, l⟩
  · subst ey
    obtain ⟨z, hd, vs, rel, dd⟩ := dk_rd I.hok e
    refine call_meetsIn PySem.F.slot_dict_get dd.typeIs PySem.F.entry_dict_get (PySem.F.args_dict_get_2 _ _) (meets_dict_get (mixKind X.prog X.w) a (kV_is ry) hd) ⟨_, dd.mapOf, h _ _ (I.tok _) ?_⟩
    rw [l]
    exact (rel.val k).getD rfl
  · subst ey
    cases (show u = Value.ref b from ry)
    obtain ⟨z, hd, xs, rel, dd⟩ := dt_rd I.hok e
    refine call_meetsIn PySem.F.slot_dict_get dd.typeIs PySem.F.entry_dict_get (PySem.F.args_dict_get_2 _ _) (meetsH_dict_get (tupleKind (mixKind X.prog X.w)) a b hd) ⟨tupleKind_room_in1 hu, k, xs, key_of I.hok eb, dd, h _ _ (I.tok _) ?_⟩
    rw [l]
    exact (rel.val k).getD rfl
/-- d.get(y, x) -/
theorem d_get2 {Q : Value → Shared → Prop} (hu : A.units + 1 < cLine) (I : Inv X pins σ H s) (g : DGet H a y o) (ry : RelV y u) (rd : RelV d r) (h : ∀ w' s', Inv X pins σ H s' → RelV (o.getD d) w' → Q w' s') :
    wpAny (model X.prog X.w) A (call (.builtin "dict.get") [.ref a, u, r]) Q E s := by
  rcases g with ⟨kvs, k, e, ey, l⟩ | ⟨kvs, k, b, e, ey, eb, l⟩
  · subst ey
    obtain ⟨z, hd, vs, rel, dd⟩ := dk_rd I.hok e
    refine call_meetsIn PySem.F.slot_dict_get dd.typeIs PySem.F.entry_dict_get (PySem.F.args_dict_get_3 _ _ _) (meets_dict_get_default (mixKind X.prog X.w) a (kV_is ry) hd r) ⟨_, dd.mapOf, h _ _ (I.tok _) ?_⟩
    rw [l]
    exact (rel.val k).getD rd
  · subst ey
    cases (show u = Value.ref b from ry)
    obtain ⟨z, hd, xs, rel, dd⟩ := dt_rd I.hok e
    refine call_meetsIn PySem.F.slot_dict_get dd.typeIs PySem.F.entry_dict_get (PySem.F.args_dict_get_3 _ _ _) (meetsH_dict_get_default (tupleKind (mixKind X.prog X.w)) a b hd r) ⟨tupleKind_room_in1 hu, k, xs, key_of I.hok eb, dd, h _ _ (I.tok _) ?_⟩
    rw [l]
    exact (rel.val k).getD rd
end

def tDGet1 (td ty : TE) : TE := fun σ H Q => td σ H fun x H1 => ∃ a, x = .ref a ∧ IsD H1 a ∧ ty σ H1 fun y H2 => ∃ o, DGet H2 a y o ∧ Q (o.getD .non) H2
def tDGet2 (td ty tx : TE) : TE := fun σ H Q => td σ H fun x H1 => ∃ a, x = .ref a ∧ IsD H1 a ∧ ty σ H1 fun y H2 => tx σ H2 fun z H3 => ∃ o, DGet H3 a y o ∧ Q (o.getD z) H3
/-- d.pop(k): there; d.pop(k, x): there or not -/
def tDPop1 (td ty : TE) : TE := fun σ H Q => td σ H fun x H1 => ∃ a, x = .ref a ∧ IsD H1 a ∧ ty σ H1 fun y H2 => ∃ kvs k v, H2 a = some (.dK kvs) ∧ y = kV k ∧ valV kvs k = some v ∧ Q v (upd H2 a (.dK (dropK kvs k)))
def tDPop2 (td ty tx : TE) : TE := fun σ H Q => td σ H fun x H1 => ∃ a, x = .ref a ∧ IsD H1 a ∧ ty σ H1 fun y H2 => tx σ H2 fun z H3 => ∃ kvs k, H3 a = some (.dK kvs) ∧ y = kV k ∧
  (∀ v, valV kvs k = some v → Q v (upd H3 a (.dK (dropK kvs k)))) ∧ (valV kvs k = none → Q z H3)
section
variable {X : Cx} {o e f : Expr} {apos cpos : Pos} {td ty tx : TE}
theorem pe_dget1 (hu : X.A.units + 1 < cLine) (ho : PE X o td) (he : PE X e ty) (m : M1 X o "get" apos e cpos) : PE X (.Call (.Attribute o "get" apos) [e] [] cpos) (tDGet1 td ty) := by
  intro pins s σ H Q I h
  refine wpAny_Call_method m.base m.few m.line PySem.F.plainAttrs_dict PySem.F.slot_dict_get PySem.F.type_dict_get (thn (ho pins s σ H _ I h) fun u s1 ⟨x, H1, I1, rx, a, ex, d, q1⟩ => ?_)
  subst ex
  obtain rfl : u = Value.ref a := rx
  obtain ⟨t1, t2, _⟩ := isD_at I1 d
  refine ⟨t1, t2, ?_⟩
  rw [m.trees]
  refine Calls.callWith_builtin rfl (Calls.evalArgs_plain (Calls.spliced_cons (thn (he pins s1 σ H1 _ I1 q1) fun iv s2 ⟨y, H2, I2, ry, ov, g, q2⟩ => Calls.spliced_nil ?_)))
  exact d_get1 hu I2 g ry fun w' s3 I3 rw' => ⟨_, H2, I3, rw', q2⟩
theorem pe_dget2 (hu : X.A.units + 1 < cLine) (ho : PE X o td) (he : PE X e ty) (hf : PE X f tx) (m : M2 X o "get" apos e f cpos) : PE X (.Call (.Attribute o "get" apos) [e, f] [] cpos) (tDGet2 td ty tx) := by
  intro pins s σ H Q I h
  refine wpAny_Call_method m.base m.few m.line PySem.F.plainAttrs_dict PySem.F.slot_dict_get PySem.F.type_dict_get (thn (ho pins s σ H _ I h) fun u s1 ⟨x, H1, I1, rx, a, ex, d, q1⟩ => ?_)
  subst ex
  obtain rfl : u = Value.ref a := rx
  obtain ⟨t1, t2, _⟩ := isD_at I1 d
  refine ⟨t1, t2, ?_⟩
  rw [m.trees]
  refine Calls.callWith_builtin rfl (Calls.evalArgs_plain (Calls.spliced_cons (thn (he pins s1 σ H1 _ I1 q1) fun iv s2 ⟨y, H2, I2, ry, q2⟩ =>
    Calls.spliced_cons (thn (hf pins s2 σ H2 _ I2 q2) fun fv s3 ⟨z, H3, I3, rz, ov, g, q3⟩ => Calls.spliced_nil ?_))))
  exact d_get2 hu I3 g ry rz fun w' s4 I4 rw' => ⟨_, H3, I4, rw', q3⟩
theorem pe_dpop1 (ho : PE X o td) (he : PE X e ty) (m : M1 X o "pop" apos e cpos) : PE X (.Call (.Attribute o "pop" apos) [e] [] cpos) (tDPop1 td ty) := by
  intro pins s σ H Q I h
  refine wpAny_Call_method m.base m.few m.line PySem.F.plainAttrs_dict PySem.F.slot_dict_pop PySem.F.type_dict_pop (thn (ho pins s σ H _ I h) fun u s1 ⟨x, H1, I1, rx, a, ex, d, q1⟩ => ?_)
  subst ex
  obtain rfl : u = Value.ref a := rx
  obtain ⟨t1, t2, _⟩ := isD_at I1 d
  refine ⟨t1, t2, ?_⟩
  rw [m.trees]
  refine Calls.callWith_builtin rfl (Calls.evalArgs_plain (Calls.spliced_cons (thn (he pins s1 σ H1 _ I1 q1) fun iv s2 ⟨y, H2, I2, ry, kvs, k, v, ea, ey, l, q2⟩ => Calls.spliced_nil ?_)))
  subst ey
  exact d_pop I2 ea ry l (.inl rfl) fun w' s3 I3 rw' => ⟨v, _, I3, rw', q2⟩
theorem pe_dpop2 (ho : PE X o td) (he : PE X e ty) (hf : PE X f tx) (m : M2 X o "pop" apos e f cpos) : PE X (.Call (.Attribute o "pop" apos) [e, f] [] cpos) (tDPop2 td ty tx) := by
  intro pins s σ H Q I h
  refine wpAny_Call_method m.base m.few m.line PySem.F.plainAttrs_dict PySem.F.slot_dict_pop PySem.F.type_dict_pop (thn (ho pins s σ H _ I h) fun u s1 ⟨x, H1, I1, rx, a, ex, d, q1⟩ => ?_)
  subst ex
  obtain rfl : u = Value.ref a := rx
  obtain ⟨t1, t2, _⟩ := isD_at I1 d
  refine ⟨t1, t2, ?_⟩
  rw [m.trees]
  refine Calls.callWith_builtin rfl (Calls.evalArgs_plain (Calls.spliced_cons (thn (he pins s1 σ H1 _ I1 q1) fun iv s2 ⟨y, H2, I2, ry, q2⟩ =>
    Calls.spliced_cons (thn (hf pins s2 σ H2 _ I2 q2) fun fv s3 ⟨z, H3, I3, rz, kvs, k, ea, ey, q3, q4⟩ => Calls.spliced_nil ?_))))
  subst ey
  cases l : valV kvs k with
  | some v => exact d_pop I3 ea ry l (.inr ⟨fv, rfl⟩) fun w' s4 I4 rw' => ⟨v, _, I4, rw', q3 v l⟩
  | none => exact d_popD I3 ea ry l fun s4 I4 => ⟨z, H3, I4, rz, q4 l⟩
end

/-! ### dict(d): a copy -/
section
variable {X : Cx} {pins : List (Addr × Obj)} {σ : St} {H : Hp} {s : Shared} {a : Addr} {kvs : List (Key × V)} {A : Around} {E : Value → Shared → Prop}
theorem d_copyOf {Q : Value → Shared → Prop} (I : Inv X pins σ H s) (e : Rd H a (.dK kvs)) (h : ∀ p s', H p = none → Inv X pins σ (upd H p (.dK kvs)) s' → Q (.ref p) s') : wpAny (model X.prog X.w) A (call (.type "dict") [.ref a]) Q E s := by
  obtain ⟨z, hd, vs, rel, dd⟩ := dk_rd I.hok e
  refine kt_call_dict hd dd (by rw [← rel.length]; exact z) fun h' dd' hs => ?_
  refine h _ _ (I.hok.fresh (Nat.le_refl _)) (I.laid (a := s.heap.objs.size) (o := .dK kvs) (t' := s.toks) (fun b q hq => ?_) (Nat.le_refl _) (dk_new z (beq_eq_false_iff_ne.mpr (Ne.symm (Nat.ne_of_lt I.big))) rel dd'))
  exact (hs.2 b (Nat.ne_of_lt (Heap.lt_size hq))).trans (Heap.get?_push_of_some _ hq)
end


section
variable {X : Cx} {pins : List (Addr × Obj)} {σ : St} {H : Hp} {s : Shared} {a : Addr} {y : V} {u : Value} {A : Around} {E : Value → Shared → Prop}
/-- d[y], not there: a KeyError -/
theorem d_missing {Q : Value → Shared → Prop} (hu : A.units + 1 < cLine) (hh : A.handled = none) (I : Inv X pins σ H s) (g : DGet H a y none) (ry : RelV y u)
    (h : ∀ h' e t', Heap.NewExc s.heap h' e "KeyError" → E (.ref e) { s with heap := h', toks := t' }) : wpAny (model X.prog X.w) A (getItem (.ref a) u) Q E s := by
  rcases g with ⟨kvs, k, e, ey, l⟩ | ⟨kvs, k, b, e, ey, eb, l⟩
  · subst ey
    obtain ⟨z, hd, vs, rel, dd⟩ := dk_rd I.hok e
    have hn : valueAt vs k = none := RelO.none_of (by rw [l]; exact rel.val k)
    exact wpAny_getItem_missing_of (kV_is ry) hd hh dd.mapOf hn fun h' ex ne => h h' ex _ ne
  · subst ey
    cases (show u = Value.ref b from ry)
    obtain ⟨z, hd, xs, rel, dd⟩ := dt_rd I.hok e
    have hn : (atKey xs k).map (·.2) = none := RelO.none_of (by rw [l]; exact rel.val k)
    exact wpAny_getItem_missing_heap (tupleKind_room_in1 hu) (key_of I.hok eb) hd hh dd (Option.map_eq_none_iff.mp hn) fun h' ex ne => h h' ex _ ne
end
end L2
namespace L2
open PySem PySem.Spec PyProof.Rows
/-! ### a dict's pairs: keys that differ -/
section
variable {κ : Type} [DecidableEq κ]
theorem valV_not {kvs : List (κ × V)} {k : κ} (h : valV kvs k = none) : ¬ k ∈ kvs.map (·.1) := by
  intro m
  obtain ⟨p, hp, e⟩ := List.mem_map.mp m
  have q : (kvs.any fun kv => decide (kv.1 = k)) = true := List.any_eq_true.mpr ⟨p, hp, decide_eq_true e⟩
  rw [valV_any, h] at q
  exact absurd q (by simp)
theorem valV_in {kvs : List (κ × V)} {k : κ} {v : V} (h : valV kvs k = some v) : k ∈ kvs.map (·.1) := by
  have q : (kvs.any fun kv => decide (kv.1 = k)) = true := by
    rw [valV_any, h]
    all_goals rfl
  obtain ⟨p, hp, e⟩ := List.any_eq_true.mp q
  exact List.mem_map.mpr ⟨p, hp, of_decide_eq_true e⟩
theorem nd_snoc : ∀ {l : List κ} {k : κ}, l.Nodup → ¬ k ∈ l → (l ++ [k]).Nodup
  | [], k, _, _ => by simp
  | a :: r, k, h, hk => by
    obtain ⟨h1, h2⟩ := List.nodup_cons.mp h
    show (a :: (r ++ [k])).Nodup
    refine List.nodup_cons.mpr ⟨fun m => ?_, nd_snoc h2 fun m => hk (List.mem_cons.mpr (Or.inr m))⟩
    rcases List.mem_append.mp m with q | q
    · exact h1 q
    · exact hk (List.mem_cons.mpr (Or.inl (List.mem_singleton.mp q).symm))
theorem nd_putK {kvs : List (κ × V)} {k : κ} (v : V) (hn : (kvs.map (·.1)).Nodup) (h : valV kvs k = none) : ((putK kvs k v).map (·.1)).Nodup := by
  rw [putK_new v h, List.map_append]
  exact nd_snoc hn (valV_not h)
theorem dropK_pos {p : κ × V} {r : List (κ × V)} {k : κ} (e : p.1 = k) : dropK (p :: r) k = dropK r k := by
  unfold dropK
  rw [List.filter_cons, if_neg (by simp [e])]
theorem dropK_neg {p : κ × V} {r : List (κ × V)} {k : κ} (e : ¬ p.1 = k) : dropK (p :: r) k = p :: dropK r k := by
  unfold dropK
  rw [List.filter_cons, if_pos (by simp [e])]
theorem dropK_no : ∀ {kvs : List (κ × V)} {k : κ}, ¬ k ∈ kvs.map (·.1) → dropK kvs k = kvs
  | [], _, _ => rfl
  | p :: r, k, h => by
    have h' : ¬ k ∈ r.map (·.1) := fun m => by
      obtain ⟨q, hq, e⟩ := List.mem_map.mp m
      exact h (List.mem_map.mpr ⟨q, List.mem_cons.mpr (Or.inr hq), e⟩)
    rw [dropK_neg fun e => h (List.mem_map.mpr ⟨p, List.mem_cons.mpr (Or.inl rfl), e⟩), dropK_no h']
theorem dropK_mem {kvs : List (κ × V)} {k : κ} {p : κ × V} (h : p ∈ dropK kvs k) : p ∈ kvs := (List.mem_filter.mp h).1
theorem nd_dropK : ∀ {kvs : List (κ × V)} {k : κ}, (kvs.map (·.1)).Nodup → ((dropK kvs k).map (·.1)).Nodup
  | [], _, _ => List.nodup_nil
  | p :: r, k, h => by
    have h : (p.1 :: r.map (·.1)).Nodup := h
    obtain ⟨h1, h2⟩ := List.nodup_cons.mp h
    by_cases e : p.1 = k
    · rw [dropK_pos e]
      exact nd_dropK h2
    · rw [dropK_neg e]
      show (p.1 :: (dropK r k).map (·.1)).Nodup
      refine List.nodup_cons.mpr ⟨fun m => h1 ?_, nd_dropK h2⟩
      obtain ⟨q, hq, eq⟩ := List.mem_map.mp m
      exact List.mem_map.mpr ⟨q, dropK_mem hq, eq⟩
theorem dropK_len : ∀ {kvs : List (κ × V)} {k : κ}, (kvs.map (·.1)).Nodup → k ∈ kvs.map (·.1) → (dropK kvs k).length + 1 = kvs.length
  | [], _, _, m => by simp at m
  | p :: r, k, h, m => by
    have h : (p.1 :: r.map (·.1)).Nodup := h
    have m : k = p.1 ∨ k ∈ r.map (·.1) := List.mem_cons.mp m
    obtain ⟨h1, h2⟩ := List.nodup_cons.mp h
    by_cases e : p.1 = k
    · subst e
      rw [dropK_pos rfl, dropK_no h1]
      all_goals rfl
    · have m' : k ∈ r.map (·.1) := m.resolve_left fun z => e z.symm
      have q := dropK_len h2 m'
      rw [dropK_neg e, List.length_cons, List.length_cons]
      omega
end
end L2
set_option maxHeartbeats 4000000
/-! EXT: rules of this repo's own over the hand layer: list comprehensions, isinstance, the module's tables, all(..), things as trees -/
namespace L3
open PySem PySem.Spec PyProof.Rows L2

abbrev noX : Value → Shared → Prop := fun _ _ => False

theorem hok_track {P : Program} {w : World} {H : Hp} {h : Heap} {a : Addr} {o : HO} (x : HOk P w H h) (hn : H a = none) (new : ObjOk P w (upd H a o) h a o) : HOk P w (upd H a o) h := by
  intro b u e
  by_cases hb : b = a
  · subst hb
    rw [upd_same] at e
    cases e
    exact new
  · rw [upd_ne hb] at e
    refine (x b u e).stay (fun c v _ q => q) (fun c q => ?_) (fun c xs q => ?_)
    · rw [upd_ne (ne_of_none q hn)]; exact q
    · rw [upd_ne (ne_of_none q hn)]; exact q

/-! ### a list comprehension -/
section
variable {prog : Program} {w : World} {A : Around} {R : Result → Shared → Prop} {s : Shared}
theorem comp_turns {elt tg iter : Expr} {scope : Scope} {pos : Pos} {it acc : Value} {env : Env} (J : Nat → Shared → Prop)
    (turn : ∀ n s, J n s → wpAny (model prog w) A (pyNext it) (fun r s₁ => match r with
      | none => R (.ok .next) s₁
      | some v => wpAny (model prog w) A (letOwnedTupleGo tg it v) (fun _ s₂ => wpAny (model prog w) A (assign tg env v) (fun _ s₃ =>
          wpAny (model prog w) A (eval elt env) (fun y s₄ => wpAny (model prog w) A (call (.builtin "list.append") [acc, y]) (fun _ s₅ => ∃ m, m < n ∧ J m s₅) noX s₄) noX s₃) noX s₂) noX s₁) noX s)
    (n : Nat) (h : J n s) : codeAny (model prog w) A (.compLoop (.ListComp elt [⟨tg, iter, [], 0⟩] scope pos) 0 it acc env) R s := by
  refine codeAny_loop rfl J (fun n s hJ => ?_) n h
  show wpAny _ A ((compTurn (.ListComp elt [⟨tg, iter, [], 0⟩] scope pos) 0 it acc env).onRaise (fun x => do noteFrame x env; theTreesLotGoes x)) _ _ s
  refine wpAny_noted ?_
  rw [compTurn_list]
  refine wpAny_bind (wpAny_standAt (wpAny_bind (wpAny_mono (turn n s hJ) (fun r s₁ h₁ => ?_) fun _ _ z => z.elim)))
  cases r with
  | none => exact wpAny_pure h₁
  | some v =>
    refine wpAny_bind (wpAny_mono h₁ (fun _ s₂ h₂ => ?_) fun _ _ z => z.elim)
    refine wpAny_bind (wpAny_mono h₂ (fun _ s₃ h₃ => ?_) fun _ _ z => z.elim)
    refine wpAny_bind (wpAny_tests_nil ?_)
    exact wpAny_bind (wpAny_bind (wpAny_mono h₃ (fun y s₄ h₄ => wpAny_bind (wpAny_mono h₄ (fun _ s₅ h₅ => wpAny_pure (wpAny_pure ⟨rfl, h₅⟩)) fun _ _ z => z.elim)) fun _ _ z => z.elim))
end

/-- the context of a comprehension's block -/
def cxComp (X : Cx) (N : List Str) (scope : Scope) (cl : List (Str × Addr)) (C : Addr) (s : Shared) (H : Hp) (fp : List Addr) : Cx where
  prog := X.prog
  w := X.w
  K := X.K
  mg := X.mg
  base := X.base
  A := X.A
  N := N
  s₀ := s
  H₀ := H
  env := compEnvC scope cl C X.env
  outer := X.stack
  stack := X.stack
  ex := fp
  fn := fun _ => false
  calm := X.calm
  pn := X.pn
  xe := noX

structure CompScope (x : Str) (ys : List Str) (scope : Scope) : Prop where
  kind : scope.kind = .function
  cell : ∀ y ∈ scope.names, y.2 ≠ .cell
  nm : ∀ y ∈ scope.names, y.2 = .local → scope.names.lookup y.1 = some .local
  loc : scope.names.lookup x = some .local
  nd : (x :: ys).Nodup

inductive Clo (X : Cx) : List (Str × Addr) → Prop
  | nil : Clo X []
  | cons {y : Str} {c : Addr} {cl : List (Str × Addr)} : X.env.cells.lookup y = some c → Clo X cl → Clo X ((y, c) :: cl)
theorem Clo.get {X : Cx} {cl : List (Str × Addr)} (h : Clo X cl) : ∀ {y : Str} {c : Addr}, cl.lookup y = some c → X.env.cells.lookup y = some c := by
  induction h with
  | nil => intro y c e; cases e
  | @cons z d cl' hz _ ih =>
    intro y c e
    cases q : y == z with
    | true =>
      simp only [List.lookup_cons, q] at e
      cases e
      rw [eq_of_beq q]; exact hz
    | false =>
      simp only [List.lookup_cons, q] at e
      exact ih e

inductive Frees (X : Cx) (scope : Scope) (cl : List (Str × Addr)) : List Str → List Nat → Prop
  | nil : Frees X scope cl [] []
  | cons {y : Str} {ys : List Str} {i : Nat} {is : List Nat} {c : Addr} : X.N[i]? = some y → Vis X.env.scope y → (X.env.kindOf y = some .cell ∨ X.env.kindOf y = some .free) → X.env.cells.lookup y = some c → cl.lookup y = some c →
      ((relabel scope X.env).names.lookup y = some .cell ∨ (relabel scope X.env).names.lookup y = some .free) → Frees X scope cl ys is → Frees X scope cl (y :: ys) (i :: is)
theorem Frees.len {X : Cx} {scope : Scope} {cl : List (Str × Addr)} {ys : List Str} {is : List Nat} (F : Frees X scope cl ys is) : is.length = ys.length := by
  induction F with
  | nil => rfl
  | cons _ _ _ _ _ _ _ ih => rw [List.length_cons, List.length_cons, ih]
def outs (σ : L2.St) (is : List Nat) : L2.St := is.map fun i => (σ[i]?).join
theorem Frees.get {X : Cx} {scope : Scope} {cl : List (Str × Addr)} {ys : List Str} {is : List Nat} {σ : L2.St} (F : Frees X scope cl ys is) : ∀ {j : Nat} {y : Str} {v : V}, ys[j]? = some y → (outs σ is)[j]? = some (some v) →
    ∃ (i : Nat) (c : Addr), X.N[i]? = some y ∧ σ[i]? = some (some v) ∧ Vis X.env.scope y ∧ (X.env.kindOf y = some .cell ∨ X.env.kindOf y = some .free) ∧ X.env.cells.lookup y = some c ∧ cl.lookup y = some c ∧
      ((relabel scope X.env).names.lookup y = some .cell ∨ (relabel scope X.env).names.lookup y = some .free) := by
  induction F with
  | nil => intro j y v e; simp at e
  | @cons z zs i is c h1 h2 h3 h4 h5 h6 _ ih =>
    intro j y v e1 e2
    unfold outs at e2
    rw [List.map_cons] at e2
    cases j with
    | zero =>
      rw [List.getElem?_cons_zero] at e1 e2
      cases e1
      cases q : σ[i]? with
      | none => rw [q] at e2; cases e2
      | some o =>
        rw [q] at e2
        have e3 : o = some v := Option.some.inj e2
        subst e3
        exact ⟨i, c, h1, q, h2, h3, h4, h5, h6⟩
    | succ j =>
      rw [List.getElem?_cons_succ] at e1 e2
      exact ih e1 e2

theorem comp_inv {X : Cx} {pins : List (Addr × Obj)} {σ : L2.St} {H : Hp} {s : Shared} {x : Str} {ys : List Str} {is : List Nat} {scope : Scope} {cl : List (Str × Addr)} {fp : List Addr} {C : Addr} {h1 : Heap} {t1 : Nat} {m1 : Str → Option Value}
    (I : Inv X pins σ H s) (hf : ∀ b ∈ fp, FpOk X pins H b) (hfo : ∀ b ∈ fp, b < s.heap.objs.size) (S : CompScope x ys scope) (hcl : Clo X cl)
    (hfr : (scope.names.all fun p => p.2 != .free || (cl.lookup p.1).isSome) = true) (fr : Frees X scope cl ys is)
    (hC : s.heap.objs.size ≤ C) (old : ∀ b o, s.heap.get? b = some o → h1.get? b = some o) (hn : h1.Ns C m1) :
    Inv (cxComp X (x :: ys) scope cl C s H fp) pins (none :: outs σ is) H { s with heap := h1, toks := t1 } := by
  have stk : ∀ b, b ≠ X.env.locals → b ∉ X.fs → b ∉ frs X.stack := fun b q1 q2 hb => (List.mem_cons.mp (I.stkSub b hb)).elim q1 q2
  have key : ∀ a k, (relabel scope X.env).names.lookup a = some k → (k = .cell ∨ k = .free) → ∃ c, cl.lookup a = some c := fun a k e hk => by
    have hm := PySem.mem_of_lookup e
    obtain ⟨⟨n, k0⟩, hp, ep⟩ := List.mem_map.mp hm
    have hk0 : k0 = .free ∧ n = a := by
      dsimp only at ep
      split at ep
      · rename_i hc
        simp only [Bool.and_eq_true] at hc
        exact ⟨eq_of_beq hc.1.1, (Prod.mk.inj ep).1⟩
      · obtain ⟨e1, e2⟩ := Prod.mk.inj ep
        subst e2
        rcases hk with z | z
        · exact absurd z (S.cell _ hp)
        · exact ⟨z, e1⟩
    obtain ⟨z1, z2⟩ := hk0
    subst z1 z2
    have q := List.all_eq_true.mp hfr _ hp
    have q2 : (cl.lookup n).isSome = true := by simpa using q
    exact Option.isSome_iff_exists.mp q2
  refine ⟨⟨I.ok.mod, S.kind, I.ok.glob, I.ok.blt, hC, fun a b c e1 e2 => I.ok.inj a b c (hcl.get e1) (hcl.get e2), fun a ha => ?_, fun a c e => absurd e Bool.false_ne_true, I.ok.hd, I.ok.frames, .inl rfl,
      fun b hb => ⟨Nat.ne_of_lt (Nat.lt_of_lt_of_le (hfo b hb) hC), fun a c e => (hf b hb).2.2.2.2.1 a c (hcl.get e)⟩, I.bs, Nat.le_trans I.ok.bsz I.sz, fun b o e hb => ?_, fun b hb => stk b (hf b hb).2.1 (hf b hb).2.2.1, I.stack, I.stkFree⟩,
    rfl, I.bare, Un.kept old, ⟨m1, hn, fun j y v e1 e2 e3 => ?_⟩, fun a c e => ?_, I.hok.fresh hC, fun a c e => I.freeC a c (hcl.get e), fun p hp => ?_, I.hok.kept old, ?_⟩
  · rcases ha with e | e
    · exact key a _ e (.inl rfl)
    · exact key a _ e (.inr rfl)
  · rcases (hf b hb).2.2.2.1 with z | z
    · exact I.ok.noex b o e z
    · exact absurd (Nat.lt_of_lt_of_le (Heap.lt_size (I.ok.bs b o e).1) z) (Nat.lt_irrefl _)
  · cases j with
    | zero =>
      have z : (none : Option V) = some v := Option.some.inj e2
      cases z
    | succ j =>
      obtain ⟨i, c, g1, g2, g3, g4, g5, g6, g7⟩ := fr.get (σ := σ) (show ys[j]? = some y from e1) (show (outs σ is)[j]? = some (some v) from e2)
      obtain ⟨m0, hn0, hl0⟩ := I.loc
      obtain ⟨u, r, l⟩ := hl0 i y v g1 g2 g3
      rcases l with ⟨k, _⟩ | ⟨_, c', e', z⟩
      · rcases g4 with q | q
        · rw [k] at q; cases q
        · rw [k] at q; cases q
      · rw [g5] at e'
        cases e'
        obtain ⟨o, ho, hd⟩ := z
        exact ⟨u, r, .inr ⟨g7, c, g6, ⟨o, old _ _ ho, hd⟩⟩⟩
  · obtain ⟨v, o, ho, hd⟩ := I.cell a c (hcl.get e)
    exact ⟨v, o, old _ _ ho, hd⟩
  · obtain ⟨e, n, ne, nf, d⟩ := I.pin p hp
    exact ⟨old _ _ e, n, Nat.ne_of_lt (Nat.lt_of_lt_of_le (Heap.lt_size e) hC), stk _ ne nf, d⟩
  · show (none :: outs σ is).length = (x :: ys).length
    unfold outs
    rw [List.length_cons, List.length_cons, List.length_map, fr.len]

abbrev lstO (its : List Value) : Obj := { cls := .type "list", data := .seq its.toArray its.length }

/-- the turns: W the invariant by the turn, a measure, the things so far -/
def CompGo (J : It) (te : TE) (σ' : L2.St) (H1 : Hp) (Q : VK) : Prop := ∃ W : Nat → Nat → List V → Hp → Prop, (∃ m, W 0 m [] H1) ∧ ∀ i m ys H, W i m ys H →
  (J.stop i H ∧ ys.length ≤ sizeLine ∧ ∀ p, H p = none → Q (.ref p) (upd H p (.lst ys))) ∨
  (J.go i H ∧ ys.length < sizeLine ∧ ∀ x H', J.yld i H x H' → te (some x :: σ') H' fun y H2 => ∃ m', m' < m ∧ W (i + 1) m' (ys ++ [y]) H2)
/-- [elt for x in iter] -/
def tComp (wi : TI) (is : List Nat) (te : TE) : TE := fun σ H Q => wi σ H fun J H1 => CompGo J te (outs σ is) H1 Q

theorem pe_comp {X : Cx} {elt iter : Expr} {x : Str} {px pos : Pos} {scope : Scope} {cl : List (Str × Addr)} {ys : List Str} {is : List Nat} {wi : TI} {te : TE}
    (hc : X.calm = true) (hi : PI X (.Name x px) iter wi) (he : ∀ C s H fp, PE (cxComp X (x :: ys) scope cl C s H fp) elt te)
    (hclos : closureFor scope X.env = pure cl) (S : CompScope x ys scope) (hcl : Clo X cl) (hfr : (scope.names.all fun p => p.2 != .free || (cl.lookup p.1).isSome) = true) (fr : Frees X scope cl ys is)
    (hs : ∀ v, foldedSetIterable iter X.env v = pure v := by intro _; rfl) :
    PE X (.ListComp elt [⟨.Name x px, iter, [], 0⟩] scope pos) (tComp wi is te) := by
  intro pins s σ H Q I h
  rw [eval_ListComp]
  refine wpAny_comprehension_free (use := none) rfl hs hclos S.kind S.nm (thn (hi pins s σ H _ I h) fun xv s1 h1 => thn h1 fun itv s2 h2 => ?_)
  obtain ⟨it, fp, tn, J, H2, rfl, I2, T, st2, f2, W, ⟨m0, w0⟩, turn⟩ := h2
  have fpo : ∀ b ∈ fp, b < s2.heap.objs.size := fun b hb => by
    obtain ⟨o, e, _⟩ := T.obj _ _ st2 b hb
    exact Heap.lt_size e
  refine wpAny_newObj_type (wpAny_newFunctionEnv S.cell (fun y hy => by cases hy) (fun g hns hsb => ?_) S.kind)
  dsimp only at hns hsb ⊢
  generalize hP2 : s2.heap.push { cls := .type "list", dict := none, data := .seq ([] : List Value).toArray } = P2 at hns hsb ⊢
  have hCs : P2.objs.size = s2.heap.objs.size + 1 := by rw [← hP2, Heap.size_push]
  have hDC : s2.heap.objs.size ≠ P2.objs.size := by omega
  have hle : s2.heap.objs.size ≤ P2.objs.size := by omega
  have nc : ∀ b o, s2.heap.get? b = some o → b ≠ P2.objs.size := fun b o e => Nat.ne_of_lt (Nat.lt_of_lt_of_le (Heap.lt_size e) hle)
  have nd : ∀ b o, s2.heap.get? b = some o → b ≠ s2.heap.objs.size := fun b o e => Nat.ne_of_lt (Heap.lt_size e)
  have ndH : ∀ b u, H2 b = some u → b ≠ s2.heap.objs.size := fun b u e => Nat.ne_of_lt (I2.hok.lt e)
  have old : ∀ b o, s2.heap.get? b = some o → g.get? b = some o := fun b o e => hsb.extBut b o (nc b o e) (Heap.get?_push_of_some _ (hP2 ▸ Heap.get?_push_of_some _ e))
  have accD : g.get? s2.heap.objs.size = some (lstO []) := hsb.extBut _ _ hDC (Heap.get?_push_of_some _ (hP2 ▸ Heap.get?_push_size _ rfl))
  have stkD : s2.heap.objs.size ∉ frs X.stack := fun hb => (List.mem_cons.mp (I2.stkSub _ hb)).elim (fun z => absurd z (Nat.ne_of_gt I2.lt)) (I2.nofs (Nat.le_refl _))
  have I3 : Inv (cxComp X (x :: ys) scope cl P2.objs.size s2 H2 fp) pins (none :: outs σ is) H2 { s2 with heap := g, toks := s2.toks + ([] : List (Str × Value)).length } := comp_inv I2 f2 fpo S hcl hfr fr hle old hns
  have stat : ∀ {H' : Hp} {o : Obj}, (∀ b ∈ fp, H' b = none) → ∀ b ∈ fp, FpOk (cxComp X (x :: ys) scope cl P2.objs.size s2 H2 fp) (pins ++ [(s2.heap.objs.size, o)]) H' b := fun {H' o} hn b hb => by
    refine ⟨hn b hb, Nat.ne_of_lt (Nat.lt_of_lt_of_le (fpo b hb) hle), fun z => (List.mem_cons.mp (I2.stkSub _ z)).elim (f2 b hb).2.1 (f2 b hb).2.2.1, .inl hb, fun a c e => (f2 b hb).2.2.2.2.1 a c (hcl.get e), fun p hp => ?_⟩
    rcases List.mem_append.mp hp with z | z
    · exact (f2 b hb).2.2.2.2.2 p (List.mem_append_left _ z)
    · rcases List.mem_append.mp z with z | z
      · exact (f2 b hb).2.2.2.2.2 p (List.mem_append_right _ z)
      · rw [List.mem_singleton.mp z]
        exact Nat.ne_of_gt (fpo b hb)
  have loop : codeAny (model X.prog X.w) X.A (.compLoop (.ListComp elt [⟨.Name x px, iter, [], 0⟩] scope pos) 0 (.ref it) (.ref s2.heap.objs.size) (compEnvC scope cl P2.objs.size X.env))
      (compPost (model X.prog X.w) X.A X.xe none (EP X pins σ Q) (.ref s2.heap.objs.size) P2.objs.size) { s2 with heap := g, toks := s2.toks + ([] : List (Str × Value)).length } := by
    refine comp_turns (fun n s' => ∃ i zs its H', Inv (cxComp X (x :: ys) scope cl P2.objs.size s2 H2 fp) pins (none :: outs σ is) H' s' ∧ tn i s'.heap ∧ (∀ b ∈ fp, H' b = none) ∧ s'.heap.get? s2.heap.objs.size = some (lstO its) ∧ Vals zs its ∧ H' s2.heap.objs.size = none ∧ W i n zs H')
      ?_ m0 ⟨0, [], [], H2, I3, T.keep _ _ _ st2 (fun b _ o e => old b o e), fun b hb => (f2 b hb).1, accD, .nil, I2.hok.fresh (Nat.le_refl _), w0⟩
    rintro n s3 ⟨i, zs, its, H3, J3, st3, fr3, d3, rv3, nd3, w3⟩
    have hzl := rv3.length
    have J3' : Inv (cxComp X (x :: ys) scope cl P2.objs.size s2 H2 fp) (pins ++ [(s2.heap.objs.size, lstO its)]) (none :: outs σ is) H3 s3 := J3.pins_of fun p hp => by
      rcases List.mem_append.mp hp with z | z
      · exact J3.pin p (List.mem_append_right _ z)
      · rw [List.mem_singleton.mp z]
        exact ⟨d3, nd3, hDC, stkD, fun v q => by cases q⟩
    rcases turn i n zs H3 w3 with ⟨stop, hz, q⟩ | ⟨go, hz, step⟩
    · refine wpAny_mono (T.done (cxComp X (x :: ys) scope cl P2.objs.size s2 H2 fp) rfl rfl rfl hc i _ s3 _ H3 noX J3' (stat fr3) st3 stop) (fun r s4 h4 => ?_) fun _ _ z => z.elim
      obtain ⟨hr, I4⟩ := h4
      subst hr
      obtain ⟨m4, hn4, _⟩ := id I4.loc
      refine ⟨m4, hn4, fun h' sb => ?_⟩
      have nC : ∀ b u, H3 b = some u → b ≠ P2.objs.size := fun b u e z => by
        have f4 : H3 P2.objs.size = none := I4.free
        rw [z, f4] at e; cases e
      have d4 : s4.heap.get? s2.heap.objs.size = some (lstO its) := (I4.pin (s2.heap.objs.size, lstO its) (List.mem_append_right _ (List.mem_append_right _ (List.mem_singleton.mpr rfl)))).1
      have d5 : h'.get? s2.heap.objs.size = some (lstO its) := (sb.2 _ hDC).trans d4
      have hok3 : HOk X.prog X.w H3 h' := fun b u e => (I4.hok b u e).stay (fun c v hcc q => (sb.2 c (hcc.elim (fun z => z ▸ nC b u e) (fun z => nC c _ z))).trans q) (fun _ q => q) (fun _ _ q => q)
      have u4 : Un (frs X.stack) fp H2 H3 s2.heap s4.heap := I4.base
      have un : Un (frs X.stack) fp H2 (upd H3 s2.heap.objs.size (.lst zs)) s2.heap h' :=
        ⟨fun b o e n hb hx => (sb.2 b (nc b o e)).trans (u4.keep b o e n hb hx), fun b o e n hb hx => let ⟨sl, q⟩ := u4.slot b o e n hb hx; ⟨sl, (sb.2 b (nc b o e)).trans q⟩,
          fun b o e n hx => by rw [upd_ne (nd b o e)]; exact u4.free b o e n hx, fun b o e hx => let ⟨o', q⟩ := u4.there b o e hx; ⟨o', (sb.2 b (nc b o e)).trans q⟩,
          fun b xs q => by rw [upd_ne (ndH b _ q)]; exact u4.tups b xs q, fun b o u q => by rw [upd_ne (ndH b _ q)]; exact u4.frzs b o u q, fun b ps q => by rw [upd_ne (ndH b _ q)]; exact u4.tbls b ps q⟩
      exact ⟨.ref s2.heap.objs.size, upd H3 s2.heap.objs.size (.lst zs), I2.call' (s' := { s4 with heap := h' }) (ch := fp) I4.os un (hok_track hok3 nd3 ⟨hz, its, its.length, rv3, d5⟩) I4.bare
        (fun b hb => ⟨(f2 b hb).2.2.2.1, (f2 b hb).2.1, (f2 b hb).2.2.2.2.1, (f2 b hb).2.2.2.2.2⟩), rfl, q _ nd3⟩
    · refine wpAny_mono (T.item (cxComp X (x :: ys) scope cl P2.objs.size s2 H2 fp) rfl rfl rfl hc i _ s3 _ H3 noX J3' (stat fr3) st3 go) (fun r s4 h4 => ?_) fun _ _ z => z.elim
      obtain ⟨u, hr, h4⟩ := h4
      subst hr
      refine wpAny_mono h4 (fun _ s5 h5 => ?_) fun _ _ z => z.elim
      obtain ⟨v, H5, I5, r5, y5, st5, fr5⟩ := h5
      have I5' := I5.pinned (stat fr5) (T.obj _ _ st5)
      have lx : (cxComp X (x :: ys) scope cl P2.objs.size s2 H2 fp).env.scope.names.lookup x = some .local := lookup_relabel_local S.loc
      have asg := pg_name (X := cxComp X (x :: ys) scope cl P2.objs.size s2 H2 fp) (i := 0) (x := x) (pos := px) S.nd rfl (.inl lx) (.inr lx) _ s5 _ H5 v u (fun σ6 H6 => σ6 = (none :: outs σ is).set 0 (some v) ∧ H6 = H5) I5' r5 ⟨rfl, rfl⟩
      refine wpAny_mono asg (fun _ s6 h6 => ?_) fun _ _ z => z.elim
      obtain ⟨σ6, H6, I6, e6, e6'⟩ := h6
      subst e6 e6'
      refine wpAny_mono (he P2.objs.size s2 H2 fp _ s6 _ H6 _ I6 (step v H6 y5)) (fun yv s7 h7 => ?_) fun _ _ z => z.elim
      obtain ⟨y, H7, I7, r7, m', hm', w7⟩ := h7
      have pinD := I7.pin (s2.heap.objs.size, lstO its) (List.mem_append_right _ (List.mem_append_left _ (List.mem_append_right _ (List.mem_singleton.mpr rfl))))
      refine append_at (hsz := by show its.toArray.size ≤ sizeLine; rw [List.size_toArray]; omega) pinD.1 fun h8 sb8 hD8 => ?_
      have I7' : Inv (cxComp X (x :: ys) scope cl P2.objs.size s2 H2 fp) pins (none :: outs σ is) H7 s7 := I7.unpinned.unpinned.weak rfl fun j w' e => by
        cases j with
        | zero =>
          have z : (none : Option V) = some w' := Option.some.inj e
          cases z
        | succ j => exact e
      have I8 : Inv (cxComp X (x :: ys) scope cl P2.objs.size s2 H2 fp) pins (none :: outs σ is) H7 { s7 with heap := h8 } := I7'.turned (t' := s7.toks) (it := s2.heap.objs.size) (fun b o hb e => (sb8.2 b hb).trans e) pinD.2.1 hDC (.inr (Nat.le_refl _))
        (fun a c e z => by
          obtain ⟨v', o', ho', _⟩ := I2.cell a c (hcl.get e)
          exact nd c o' ho' z)
        (fun p hp => nd p.1 _ (I2.pin p hp).1)
      refine ⟨m', hm', i + 1, zs ++ [y], its ++ [yv], H7, I8, T.keep _ _ _ st5 fun b hb o e => ?_, fun b hb => ?_, ?_, rv3.append (.cons r7 .nil), pinD.2.1, w7⟩
      · exact (sb8.2 b (Nat.ne_of_lt (fpo b hb))).trans (I7.pin (b, o) (List.mem_append_right _ (List.mem_append_right _ (mem_pinsAt hb e)))).1
      · obtain ⟨o, e, _⟩ := T.obj _ _ st5 b hb
        exact (I7.pin (b, o) (List.mem_append_right _ (List.mem_append_right _ (mem_pinsAt hb e)))).2.1
      · show h8.get? s2.heap.objs.size = _
        rw [hD8]
        simp [lstO]
  exact codeAny_compStart_list loop (T.self X.A 0 _ _ _ (T.keep _ _ _ st2 (fun b _ o e => old b o e)) loop)

/-- over a tuple that the element leaves as it is -/
theorem comp_tup {K : PySem.W.Frag} {a : Addr} {xs : List V} {te : TE} {σ' : L2.St} {H : Hp} {Q : VK} (Pv : Nat → List V → Hp → Prop) (h0 : Pv 0 [] H) (hl : ∀ i ys H, i ≤ xs.length → Pv i ys H → SqT K H a xs) (hy : ∀ i ys H, Pv i ys H → ys.length = i) (hz : xs.length < sizeLine)
    (hs : ∀ i x ys H (Q2 : VK), xs[i]? = some x → Pv i ys H → (∀ y H2, Pv (i + 1) (ys ++ [y]) H2 → Q2 y H2) → te (some x :: σ') H Q2)
    (hd : ∀ ys H, Pv xs.length ys H → ∀ p, H p = none → Q (.ref p) (upd H p (.lst ys))) :
    CompGo (Itt K a) te σ' H Q := by
  refine ⟨fun i m ys H => m = xs.length - i ∧ i ≤ xs.length ∧ Pv i ys H, ⟨xs.length, by simp, Nat.zero_le _, h0⟩, ?_⟩
  rintro i m ys H ⟨rfl, hi, p⟩
  have q := hl i ys H hi p
  have e := hy i ys H p
  by_cases hlt : i < xs.length
  · refine .inr ⟨⟨xs, xs[i], q, by simp [hlt]⟩, by omega, fun x H' y => ?_⟩
    obtain ⟨e1, y⟩ := y
    subst e1
    exact hs i x ys _ _ (y xs q) p fun z H2 hz2 => ⟨xs.length - (i + 1), by omega, rfl, hlt, hz2⟩
  · have e2 : i = xs.length := by omega
    subst e2
    exact .inl ⟨⟨xs, q, Nat.le_refl _⟩, by omega, hd ys H p⟩
theorem comp_list {K : PySem.W.Frag} {a : Addr} {xs : List V} {te : TE} {σ' : L2.St} {H : Hp} {Q : VK} (Pv : Nat → List V → Hp → Prop) (h0 : Pv 0 [] H) (hl : ∀ i ys H, i ≤ xs.length → Pv i ys H → SqL K H a xs) (hy : ∀ i ys H, Pv i ys H → ys.length = i) (hz : xs.length < sizeLine)
    (hs : ∀ i x ys H (Q2 : VK), xs[i]? = some x → Pv i ys H → (∀ y H2, Pv (i + 1) (ys ++ [y]) H2 → Q2 y H2) → te (some x :: σ') H Q2)
    (hd : ∀ ys H, Pv xs.length ys H → ∀ p, H p = none → Q (.ref p) (upd H p (.lst ys))) :
    CompGo (Itl K a) te σ' H Q := by
  refine ⟨fun i m ys H => m = xs.length - i ∧ i ≤ xs.length ∧ Pv i ys H, ⟨xs.length, by simp, Nat.zero_le _, h0⟩, ?_⟩
  rintro i m ys H ⟨rfl, hi, p⟩
  have q := hl i ys H hi p
  have e := hy i ys H p
  by_cases hlt : i < xs.length
  · refine .inr ⟨⟨xs, xs[i], q, by simp [hlt]⟩, by omega, fun x H' y => ?_⟩
    obtain ⟨e1, y⟩ := y
    subst e1
    exact hs i x ys _ _ (y xs q) p fun z H2 hz2 => ⟨xs.length - (i + 1), by omega, rfl, hlt, hz2⟩
  · have e2 : i = xs.length := by omega
    subst e2
    exact .inl ⟨⟨xs, q, Nat.le_refl _⟩, by omega, hd ys H p⟩

/-! ### all of a list of truths -/
theorem call_allB {X : Cx} (hc : X.calm = true) : CallR X (.builtin "all") (fun xs H Q => ∃ (a : Addr) (bs : List Bool), xs = [.ref a] ∧ SqL X.K H a (bs.map V.bl) ∧ Q (.bl (bs.all id)) H) := by
  intro pins s σ H xs us Q I r h
  obtain ⟨a, bs, rfl, hS, q⟩ := h
  obtain ⟨u, rfl, ru⟩ := vals1 r
  cases ru
  obtain ⟨its, rv, p, hz⟩ := I.list hS
  have hlen : its.toArray.size = bs.length := by rw [List.size_toArray, ← rv.length, List.length_map]
  have hlt : a < s.heap.objs.size := by obtain ⟨o, e, _⟩ := p.isList; exact Heap.lt_size e
  refine call_all_walk (wpAny_pyIter_list p.isList ?_)
  refine ⟨s.heap.objs.size, _, _, _, _, _, fun i => bs.getD i true, rfl, Walks.list (A := X.A.in1) (show X.A.in1.handled = none from I.ok.hd hc) s.heap.objs.size a (Nat.ne_of_lt hlt) its.toArray, ⟨⟨_, Heap.get?_push_size _ rfl, rfl, rfl⟩, p.isList.push _⟩, fun i v s' Q' E' hv hQ => ?_, fun h' tk k => ?_⟩
  · have hv' : its[i]? = some v := by simpa using hv
    have hi : i < its.length := (List.getElem?_eq_some_iff.mp hv').1
    have hib : i < bs.length := by have := rv.length; rw [List.length_map] at this; omega
    obtain ⟨w', e1, e2⟩ := rv.get (i := i) (x := .bl bs[i]) (by rw [List.getElem?_map, List.getElem?_eq_getElem hib]; rfl)
    rw [hv'] at e1
    cases e1
    cases e2
    refine wpAny_truthy_bool ?_
    have e3 : bs.getD i true = bs[i] := by rw [List.getD_eq_getElem?_getD, List.getElem?_eq_getElem hib]; rfl
    rw [← e3]; exact hQ
  · have e : (List.range its.toArray.size).all (fun i => bs.getD i true) = bs.all id := by
      rw [hlen, Bool.eq_iff_iff, List.all_eq_true, List.all_eq_true]
      constructor
      · intro z b hb
        obtain ⟨i, hi, e⟩ := List.getElem_of_mem hb
        have := z i (List.mem_range.mpr hi)
        rw [List.getD_eq_getElem?_getD, List.getElem?_eq_getElem hi] at this
        simpa [e] using this
      · intro z i hi
        have hi' := List.mem_range.mp hi
        rw [List.getD_eq_getElem?_getD, List.getElem?_eq_getElem hi']
        exact z _ (List.getElem_mem hi')
    rw [e]
    exact ⟨.bl (bs.all id), H, I.kept (fun b o eo => k b o (fun hm => by
      have : b = s.heap.objs.size := by simpa using hm
      exact absurd (this ▸ Heap.lt_size eo) (Nat.lt_irrefl _)) (Heap.get?_push_of_some _ eo)), rfl, q⟩

/-! ### things as trees -/
inductive Th where
  | non | bl (b : Bool) | int (i : Int) | str (x : Str) | tup (ts : List Th) | lst (ts : List Th)
mutual
def Has (K : PySem.W.Frag) (H : Hp) : Th → V → Prop
  | .non, v => v = .non
  | .bl b, v => v = .bl b
  | .int i, v => v = .int i
  | .str x, v => v = .str x
  | .tup ts, v => ∃ a vs, v = .ref a ∧ SqT K H a vs ∧ HasL K H ts vs
  | .lst ts, v => ∃ a vs, v = .ref a ∧ H a = some (.lst vs) ∧ HasL K H ts vs
def HasL (K : PySem.W.Frag) (H : Hp) : List Th → List V → Prop
  | [], vs => vs = []
  | t :: ts, vs => ∃ v r, vs = v :: r ∧ Has K H t v ∧ HasL K H ts r
end
theorem Same.sqt {K : PySem.W.Frag} {H H' : Hp} {a : Addr} {xs : List V} (e : Same H H') (h : SqT K H a xs) : SqT K H' a xs := by
  rcases h with (h | ⟨o, h⟩) | h
  · exact .inl (.inl (e _ _ h))
  · exact .inl (.inr ⟨o, e _ _ h⟩)
  · exact .inr h
mutual
theorem Has.mono {K : PySem.W.Frag} {H H' : Hp} (s : Same H H') : ∀ {t : Th} {v : V}, Has K H t v → Has K H' t v
  | .non, _, h => h
  | .bl _, _, h => h
  | .int _, _, h => h
  | .str _, _, h => h
  | .tup _, _, ⟨a, vs, e, q, r⟩ => ⟨a, vs, e, Same.sqt s q, HasL.mono s r⟩
  | .lst _, _, ⟨a, vs, e, q, r⟩ => ⟨a, vs, e, s _ _ q, HasL.mono s r⟩
theorem HasL.mono {K : PySem.W.Frag} {H H' : Hp} (s : Same H H') : ∀ {ts : List Th} {vs : List V}, HasL K H ts vs → HasL K H' ts vs
  | [], _, h => h
  | _ :: _, _, ⟨v, r, e, q, z⟩ => ⟨v, r, e, Has.mono s q, HasL.mono s z⟩
end
theorem HasL.length {K : PySem.W.Frag} {H : Hp} : ∀ {ts : List Th} {vs : List V}, HasL K H ts vs → vs.length = ts.length
  | [], _, h => by
    have h' : _ = [] := h
    rw [h']
    all_goals rfl
  | _ :: _, _, ⟨v, r, e, _, z⟩ => by rw [e, List.length_cons, List.length_cons, HasL.length z]
theorem HasL.get {K : PySem.W.Frag} {H : Hp} : ∀ {ts : List Th} {vs : List V} {i : Nat} {t : Th}, HasL K H ts vs → ts[i]? = some t → ∃ v, vs[i]? = some v ∧ Has K H t v
  | [], _, _, _, _, e => by simp at e
  | _ :: _, _, 0, _, ⟨v, r, e, q, _⟩, e2 => by
    rw [List.getElem?_cons_zero] at e2
    cases e2
    exact ⟨v, by rw [e]; rfl, q⟩
  | _ :: _, _, i + 1, _, ⟨v, r, e, _, z⟩, e2 => by
    rw [List.getElem?_cons_succ] at e2
    obtain ⟨u, h1, h2⟩ := HasL.get z e2
    exact ⟨u, by rw [e, List.getElem?_cons_succ]; exact h1, h2⟩
theorem HasL.get' {K : PySem.W.Frag} {H : Hp} {ts : List Th} {vs : List V} {i : Nat} {v : V} (h : HasL K H ts vs) (e : vs[i]? = some v) : ∃ t, ts[i]? = some t ∧ Has K H t v := by
  have hl := h.length
  have hi : i < vs.length := (List.getElem?_eq_some_iff.mp e).1
  have hi' : i < ts.length := by omega
  obtain ⟨u, h1, h2⟩ := h.get (List.getElem?_eq_getElem hi')
  rw [e] at h1
  cases h1
  exact ⟨_, List.getElem?_eq_getElem hi', h2⟩
theorem HasL.append {K : PySem.W.Frag} {H : Hp} : ∀ {ts us : List Th} {vs ws : List V}, HasL K H ts vs → HasL K H us ws → HasL K H (ts ++ us) (vs ++ ws)
  | [], _, _, _, h, g => by
    have h' : _ = [] := h
    rw [h']
    exact g
  | _ :: _, _, _, _, ⟨v, r, e, q, z⟩, g => by
    rw [e]
    exact ⟨v, r ++ _, rfl, q, HasL.append z g⟩
theorem HasL.drop {K : PySem.W.Frag} {H : Hp} : ∀ {ts : List Th} {vs : List V} (n : Nat), HasL K H ts vs → HasL K H (ts.drop n) (vs.drop n)
  | _, _, 0, h => h
  | [], _, n + 1, h => by
    have h' : _ = [] := h
    rw [h']
    exact (rfl : List.drop (n + 1) ([] : List V) = [])
  | _ :: _, _, n + 1, ⟨v, r, e, _, z⟩ => by rw [e]; exact HasL.drop n z
theorem HasL.take {K : PySem.W.Frag} {H : Hp} : ∀ {ts : List Th} {vs : List V} (n : Nat), HasL K H ts vs → HasL K H (ts.take n) (vs.take n)
  | _, _, 0, _ => (rfl : List.take 0 _ = [])
  | [], _, n + 1, h => by
    have h' : _ = [] := h
    rw [h']
    exact (rfl : List.take (n + 1) ([] : List V) = [])
  | _ :: _, _, n + 1, ⟨v, r, e, q, z⟩ => by rw [e]; exact ⟨v, r.take n, rfl, q, HasL.take n z⟩
theorem HasL.nil {K : PySem.W.Frag} {H : Hp} : HasL K H [] [] := rfl
theorem HasL.cons {K : PySem.W.Frag} {H : Hp} {t : Th} {ts : List Th} {v : V} {vs : List V} (h : Has K H t v) (r : HasL K H ts vs) : HasL K H (t :: ts) (v :: vs) := ⟨v, vs, rfl, h, r⟩

/-! ### isinstance of a thing -/
def Th.ty : Th → String
  | .non => "NoneType" | .bl _ => "bool" | .int _ => "int" | .str _ => "str" | .tup _ => "tuple" | .lst _ => "list"
def isI (c : String) (t : Th) : Bool := t.ty == c || (t.ty == "bool" && c == "int")
theorem kit_type {K : PySem.W.Frag} {A B : String} : PySem.W.kitOne K (.type A) (.type B) = PySem.W.kitOne [] (.type A) (.type B) := by
  unfold PySem.W.kitOne PySem.W.kitCls PySem.W.subIn
  rfl
theorem kit_nm : ∀ c ∈ ["tuple", "str", "bool", "int", "list"], ∀ n ∈ ["NoneType", "bool", "int", "str", "tuple", "list"], PySem.W.kitOne [] (.type n) (.type c) = some (n == c || (n == "bool" && c == "int")) := by decide +kernel
theorem ty_mem (t : Th) : t.ty ∈ ["NoneType", "bool", "int", "str", "tuple", "list"] := by cases t <;> simp [Th.ty]
theorem kit_ty {c : String} (hc : c ∈ ["tuple", "str", "bool", "int", "list"]) (t : Th) : PySem.W.kitOne [] (.type t.ty) (.type c) = some (isI c t) := kit_nm c hc t.ty (ty_mem t)
theorem isI_call {X : Cx} {c : String} (hc : c ∈ ["tuple", "str", "bool", "int", "list"]) : CallR X (.builtin "isinstance") (fun xs H Q => ∃ x t, xs = [x, .ty c] ∧ Has X.K H t x ∧ Q (.bl (isI c t)) H) := by
  intro pins s σ H xs us Q I r h
  obtain ⟨x, t, rfl, ht, q⟩ := h
  obtain ⟨u, w', rfl, ru, rw'⟩ := vals2 r
  cases rw'
  have e : PySem.W.kitOne X.K (.type t.ty) (.type c) = some (isI c t) := kit_type.trans (kit_ty hc t)
  have fin : ∀ tk, EP X pins σ Q (.bool (isI c t)) { s with toks := tk } := fun tk => ⟨.bl (isI c t), H, I.tok tk, rfl, q⟩
  cases t with
  | non =>
    obtain rfl : x = .non := ht
    exact isinst_ok I ru .non e fin
  | bl b =>
    obtain rfl : x = .bl b := ht
    exact isinst_ok I ru (.bl b) e fin
  | int i =>
    obtain rfl : x = .int i := ht
    exact isinst_ok I ru (.int i) e fin
  | str z =>
    obtain rfl : x = .str z := ht
    exact isinst_ok I ru (.str z) e fin
  | tup ts =>
    obtain ⟨a, vs, rfl, hS, _⟩ := ht
    cases ru
    obtain ⟨its, _, p, _⟩ := I.tuple hS
    obtain ⟨o, h1, h2, _⟩ := p
    exact PySem.W.kia_one PySem.W.kitx_tuple I.kIn ⟨o, h1, h2⟩ e (fun z => nomatch z) fin
  | lst ts =>
    obtain ⟨a, vs, rfl, hS, _⟩ := ht
    cases ru
    obtain ⟨its, _, p, _⟩ := I.list (SqL.of hS)
    obtain ⟨o, n, h1, h2, _⟩ := p
    exact PySem.W.kia_one PySem.W.kitx_list I.kIn ⟨o, h1, h2⟩ e (fun z => nomatch z) fin

/-! ### the module's tables: dicts with texts for keys -/
structure DTab (K : PySem.W.Frag) (w : World) (a : Addr) (T : List (Str × V)) : Prop where
  ex : ∃ es n, K.lookup a = some ⟨.type "dict", none, .dict es n, #[]⟩ ∧ PySem.W.KeysLit w.params es.toList ∧ Paired (fun (p : Str × V) (e : DictEntry) => (∃ t, e.key = .str p.1 t) ∧ RelV p.2 e.val) T es.toList
  lo : (a == sysModules) = false
theorem tab_find {x : Str} : ∀ {T : List (Str × V)} {l : List DictEntry}, Paired (fun (p : Str × V) (e : DictEntry) => (∃ t, e.key = .str p.1 t) ∧ RelV p.2 e.val) T l → RelO (T.lookup x) ((l.find? fun d => Value.isStrOf x d.key).map (·.val))
  | _, _, .nil => trivial
  | (k, v) :: T, e :: l, .cons ⟨⟨t, h1⟩, h2⟩ r => by
    have ih := tab_find (x := x) r
    have q : Value.isStrOf x e.key = (x == k) := by
      have h1' : e.key = .str k t := h1
      rw [h1']
      show (k == x) = (x == k)
      by_cases z : x = k
      · subst z; rfl
      · rw [beq_false_of_ne z, beq_false_of_ne (Ne.symm z)]
    rw [List.find?_cons, q, List.lookup_cons]
    cases x == k with
    | true => exact h2
    | false => exact ih
theorem DTab.map {K : PySem.W.Frag} {w : World} {a : Addr} {T : List (Str × V)} {P : Program} {h : Heap} (D : DTab K w a T) (X : K.In h) : ∃ f : Str → Option Value, h.MapOf (strKind P w) a f ∧ ∀ x, RelO (T.lookup x) (f x) := by
  obtain ⟨es, n, h1, h2, h3⟩ := D.ex
  refine ⟨_, PySem.W.mapOf_K (prog := P) X h1 h2, fun x => ?_⟩
  have q := tab_find (x := x) h3
  have e : findBy Value.isStrOf es x = (es.toList.find? fun d => Value.isStrOf x d.key).map (·.val) := by
    unfold findBy
    rw [← Array.find?_toList]
  rw [e]; exact q
theorem RelO.some_is {v : V} {o : Option Value} (r : RelO (some v) o) : ∃ u, o = some u ∧ RelV v u := by
  cases o with
  | none => exact r.elim
  | some u => exact ⟨u, rfl, r⟩
theorem RelO.same_some {o : Option V} {u : Option Value} (r : RelO o u) : u.isSome = o.isSome := by
  cases o with
  | none =>
    cases u with
    | none => rfl
    | some u => exact r.elim
  | some v =>
    obtain ⟨u, rfl, _⟩ := RelO.some_is r
    rfl
section
variable {X : Cx}
theorem op_inTab : OpR X (compareOp .In) (fun x y H Q => ∃ z a T, x = .str z ∧ y = .ref a ∧ DTab X.K X.w a T ∧ Q (.bl (T.lookup z).isSome) H) := by
  intro pins s σ H x y v u Q I rx ry h
  obtain ⟨z, a, T, rfl, rfl, D, q⟩ := h
  obtain ⟨t, rfl⟩ := rx
  cases ry
  obtain ⟨f, hm, hf⟩ := D.map (P := X.prog) I.kIn
  refine wpAny_in_of (strKind_is X.prog X.w z t) D.lo hm ?_
  rw [RelO.same_some (hf z)]
  exact ⟨.bl (T.lookup z).isSome, H, I.tok _, rfl, q⟩
theorem op_notInTab : OpR X (compareOp .NotIn) (fun x y H Q => ∃ z a T, x = .str z ∧ y = .ref a ∧ DTab X.K X.w a T ∧ Q (.bl (!(T.lookup z).isSome)) H) := by
  intro pins s σ H x y v u Q I rx ry h
  obtain ⟨z, a, T, rfl, rfl, D, q⟩ := h
  obtain ⟨t, rfl⟩ := rx
  cases ry
  obtain ⟨f, hm, hf⟩ := D.map (P := X.prog) I.kIn
  refine wpAny_notIn_of (strKind_is X.prog X.w z t) D.lo hm ?_
  rw [RelO.same_some (hf z)]
  exact ⟨.bl (!(T.lookup z).isSome), H, I.tok _, rfl, q⟩
theorem ix_tab : IxR X (fun x y H Q => ∃ a z T v, x = .ref a ∧ y = .str z ∧ DTab X.K X.w a T ∧ T.lookup z = some v ∧ Q v H) := by
  intro value slice pins s σ H x y v u Q I rx ry h hs
  obtain ⟨a, z, T, r, rfl, rfl, D, l, q⟩ := h
  cases rx
  obtain ⟨t, rfl⟩ := ry
  obtain ⟨f, hm, hf⟩ := D.map (P := X.prog) I.kIn
  have e := hf z
  rw [l] at e
  obtain ⟨w', e1, e2⟩ := RelO.some_is e
  exact tail_any hm.typeIs PySem.F.slot_dict_getitem.lookup (wpAny_getItem_of (strKind_is X.prog X.w z t) hm e1 ⟨r, H, I.tok _, e2, q⟩) hs
end
/-- a new object beside what was tracked -/
theorem same_upd {H : Hp} {p : Addr} (h : H p = none) (o : HO) : Same H (upd H p o) := fun b u q => by rw [upd_ne (ne_of_none q h)]; exact q
/-- t + u of tuples, t not empty, by what comes alone -/
def rCatU (K : PySem.W.Frag) : R2 := fun x y H Q => ∃ a b xs ys, x = .ref a ∧ y = .ref b ∧ SqT K H a xs ∧ SqT K H b ys ∧ xs ≠ [] ∧ xs.length + ys.length ≤ sizeLine ∧ ∀ v H', Same H H' → (∃ c, v = .ref c ∧ SqT K H' c (xs ++ ys)) → Q v H'
theorem op_catU {X : Cx} : OpR X (binaryOp .Add) (rCatU X.K) := fun pins s σ H x y v u Q I rx ry h => by
  obtain ⟨a, b, xs, ys, e1, e2, h1, h2, hx, hz, q⟩ := h
  exact op_catT pins s σ H x y v u Q I rx ry ⟨a, b, xs, ys, e1, e2, h1, h2, hx, hz, fun z => q _ _ (Same.refl _) ⟨a, rfl, by rw [z, List.append_nil]; exact h1⟩, fun _ p hp => q _ _ (same_upd hp _) ⟨p, rfl, SqT.of upd_same⟩⟩
/-- a built-in type, an object of the module, by name -/
theorem pe_ty {X : Cx} {x : Str} {T : String} {pos : Pos} (hg : Gl X x) (hm : X.mg x = none) (hv : bootBuiltins x = some (.type T)) (hn : x ≠ "__name__" := by decide) (hd : (x == ("__debug__" : Str)) = false := by decide) : PE X (.Name x pos) (tC (.ty T)) := pe_bltn (v := .ty T) hg hm hv rfl hn hd
theorem pe_obj {X : Cx} {x : Str} {a : Addr} {pos : Pos} (hg : Gl X x) (hm : X.mg x = some (.ref a)) (hd : (x == ("__debug__" : Str)) = false := by decide) : PE X (.Name x pos) (tC (.ref a)) := pe_glob (v := .ref a) hg hm rfl hd
/-! ### sum of a list of ints -/
theorem preSum_take (ns : List Int) : ∀ k, k ≤ ns.length → preSum (fun i => ns.getD i 0) k = (ns.take k).sum
  | 0, _ => rfl
  | k + 1, h => by
    have ih := preSum_take ns k (by omega)
    show preSum (fun i => ns.getD i 0) k + ns.getD k 0 = _
    rw [ih, List.take_succ, List.sum_append, List.getD_eq_getElem?_getD, List.getElem?_eq_getElem (show k < ns.length by omega)]
    simp
theorem call_sumI {X : Cx} (hc : X.calm = true) : CallR X (.builtin "sum") (fun xs H Q => ∃ (a : Addr) (ns : List Int), xs = [.ref a] ∧ SqL X.K H a (ns.map V.int) ∧ Q (.int ns.sum) H) := by
  intro pins s σ H xs us Q I r h
  obtain ⟨a, ns, rfl, hS, q⟩ := h
  obtain ⟨u, rfl, ru⟩ := vals1 r
  cases ru
  obtain ⟨its, rv, p, hz⟩ := I.list hS
  have hlen : its.toArray.size = ns.length := by rw [List.size_toArray, ← rv.length, List.length_map]
  have hlt : a < s.heap.objs.size := by obtain ⟨o, e, _⟩ := p.isList; exact Heap.lt_size e
  refine call_sum_walkG (wpAny_pyIter_list p.isList ?_)
  refine ⟨s.heap.objs.size, _, _, _, _, _, fun i => ns.getD i 0, rfl, Walks.list (A := X.A.in1) (show X.A.in1.handled = none from I.ok.hd hc) s.heap.objs.size a (Nat.ne_of_lt hlt) its.toArray, ⟨⟨_, Heap.get?_push_size _ rfl, rfl, rfl⟩, p.isList.push _⟩, fun b hb => ?_, fun i v hv => ?_, fun h' tk t' k => ?_⟩
  · show b < (s.heap.push _).objs.size
    rw [Heap.size_push]
    rcases List.mem_cons.mp hb with rfl | hb
    · exact Nat.lt_succ_self _
    · rw [List.mem_singleton.mp hb]; exact Nat.lt_succ_of_lt hlt
  · have hv' : its[i]? = some v := by simpa using hv
    have hi : i < its.length := (List.getElem?_eq_some_iff.mp hv').1
    have hib : i < ns.length := by have := rv.length; rw [List.length_map] at this; omega
    obtain ⟨w', e1, e2⟩ := rv.get (i := i) (x := .int ns[i]) (by rw [List.getElem?_map, List.getElem?_eq_getElem hib]; rfl)
    rw [hv'] at e1
    cases e1
    obtain ⟨t, rfl⟩ := e2
    have e3 : ns.getD i 0 = ns[i] := by rw [List.getD_eq_getElem?_getD, List.getElem?_eq_getElem hib]; rfl
    exact ⟨t, by show Value.int ns[i] t = Value.int (ns.getD i 0) t; rw [e3]⟩
  · have e : preSum (fun i => ns.getD i 0) its.toArray.size = ns.sum := by
      rw [hlen, preSum_take ns _ (Nat.le_refl _), List.take_length]
    rw [e]
    exact ⟨.int ns.sum, H, I.kept (fun b o eo => k b o (fun hm => by
      have : b = s.heap.objs.size := by simpa using hm
      exact absurd (this ▸ Heap.lt_size eo) (Nat.lt_irrefl _)) (Heap.get?_push_of_some _ eo)), ⟨t', rfl⟩, q⟩

/-! ### a comprehension over a range -/
theorem comp_range {lo : Int} {n : Nat} {te : TE} {σ' : L2.St} {H : Hp} {Q : VK} (Pv : Nat → List V → Hp → Prop) (h0 : Pv 0 [] H) (hy : ∀ i ys H, Pv i ys H → ys.length = i) (hz : n < sizeLine)
    (hs : ∀ i ys H (Q2 : VK), i < n → Pv i ys H → (∀ y H2, Pv (i + 1) (ys ++ [y]) H2 → Q2 y H2) → te (some (.int (lo + i)) :: σ') H Q2)
    (hd : ∀ ys H, Pv n ys H → ∀ p, H p = none → Q (.ref p) (upd H p (.lst ys))) :
    CompGo (Itr lo n) te σ' H Q := by
  refine ⟨fun i m ys H => m = n - i ∧ i ≤ n ∧ Pv i ys H, ⟨n, by simp, Nat.zero_le _, h0⟩, ?_⟩
  rintro i m ys H ⟨rfl, hi, p⟩
  have e := hy i ys H p
  by_cases hlt : i < n
  · refine .inr ⟨hlt, by omega, fun x H' y => ?_⟩
    obtain ⟨e1, e2⟩ := y
    subst e1 e2
    exact hs i ys _ _ hlt p fun z H2 hz2 => ⟨n - (i + 1), by omega, rfl, hlt, hz2⟩
  · have e2 : i = n := by omega
    subst e2
    exact .inl ⟨Nat.le_refl _, by omega, hd ys H p⟩

/-! ### == of things -/
mutual
def toD : Th → PyData
  | .non => .none
  | .bl b => .bool b
  | .int i => .int i
  | .str x => .str x
  | .tup ts => .tuple (toDs ts)
  | .lst ts => .list (toDs ts)
def toDs : List Th → List PyData
  | [] => []
  | t :: ts => toD t :: toDs ts
end
section
variable {X : Cx} {pins : List (Addr × Obj)} {σ : L2.St} {H : Hp} {s : Shared}
mutual
theorem Has.reads (I : Inv X pins σ H s) : ∀ {t : Th} {v : V} {u : Value}, Has X.K H t v → RelV v u → ∃ as, Reads s.heap u (toD t) as
  | .non, _, u, h, r => by
    obtain rfl : _ = V.non := h
    obtain rfl : u = Value.none := r
    exact ⟨_, .none⟩
  | .bl b, _, u, h, r => by
    obtain rfl : _ = V.bl b := h
    obtain rfl : u = Value.bool b := r
    exact ⟨_, .bool b⟩
  | .int i, _, u, h, r => by
    obtain rfl : _ = V.int i := h
    obtain ⟨t, rfl⟩ : ∃ t, u = Value.int i t := r
    exact ⟨_, .int i t⟩
  | .str x, _, u, h, r => by
    obtain rfl : _ = V.str x := h
    obtain ⟨t, rfl⟩ : ∃ t, u = Value.str x t := r
    exact ⟨_, .str x t⟩
  | .tup ts, _, u, ⟨a, vs, e, hS, hL⟩, r => by
    subst e
    obtain rfl : u = Value.ref a := r
    obtain ⟨its, rv, ⟨o, h1, h2, n, h3⟩, _⟩ := I.tuple hS
    obtain ⟨as, ra⟩ := HasL.reads I hL rv
    exact ⟨_, .tuple h1 h2 h3 (by simpa using ra)⟩
  | .lst ts, _, u, ⟨a, vs, e, hS, hL⟩, r => by
    subst e
    obtain rfl : u = Value.ref a := r
    obtain ⟨its, rv, ⟨o, n, h1, h2, _, h3⟩, _⟩ := I.list (SqL.of hS)
    obtain ⟨as, ra⟩ := HasL.reads I hL rv
    exact ⟨_, .list h1 h2 h3 (by simpa using ra)⟩
theorem HasL.reads (I : Inv X pins σ H s) : ∀ {ts : List Th} {vs : List V} {us : List Value}, HasL X.K H ts vs → Vals vs us → ∃ as, ReadsAll s.heap us (toDs ts) as
  | [], vs, us, h, r => by
    obtain rfl : vs = [] := h
    cases r
    exact ⟨_, .nil⟩
  | t :: ts, vs, us, ⟨v, w', e, h1, h2⟩, r => by
    subst e
    cases r with
    | cons r1 r2 =>
      obtain ⟨as, ra⟩ := Has.reads I h1 r1
      obtain ⟨bs, rb⟩ := HasL.reads I h2 r2
      exact ⟨_, .cons ra rb⟩
end
end
abbrev okTh (t : Th) : Prop := SeqAt.shaped (toD t) = true
theorem op_eqTh {X : Cx} (hu : X.A.units + 64 < cLine) : OpR X (compareOp .Eq) (fun x y H Q => ∃ t t', Has X.K H t x ∧ Has X.K H t' y ∧ okTh t ∧ okTh t' ∧ Q (.bl (PyData.eqv (toD t) (toD t'))) H) := by
  intro pins s σ H x y v u Q I rx ry h
  obtain ⟨t, t', h1, h2, o1, o2, q⟩ := h
  obtain ⟨as, ra⟩ := Has.reads I h1 rx
  obtain ⟨bs, rb⟩ := Has.reads I h2 ry
  exact PyProof.Rows.eq_dataH ra rb o1 o2 hu ⟨.bl _, H, I, rfl, q⟩
theorem op_neTh {X : Cx} (hu : X.A.units + 64 < cLine) : OpR X (compareOp .NotEq) (fun x y H Q => ∃ t t', Has X.K H t x ∧ Has X.K H t' y ∧ okTh t ∧ okTh t' ∧ Q (.bl (!PyData.eqv (toD t) (toD t'))) H) := by
  intro pins s σ H x y v u Q I rx ry h
  obtain ⟨t, t', h1, h2, o1, o2, q⟩ := h
  obtain ⟨as, ra⟩ := Has.reads I h1 rx
  obtain ⟨bs, rb⟩ := Has.reads I h2 ry
  exact PyProof.Rows.ne_dataH ra rb o1 o2 hu ⟨.bl _, H, I, rfl, q⟩
theorem eqv_self {t : Th} (o : okTh t) : PyData.eqv (toD t) (toD t) = true := SeqAt.eqv_refl _ (SeqAt.canLay_of_shaped o)

/-! ### isinstance(x, (A, B)) -/
theorem isI_two {X : Cx} {c1 c2 : String} (h1 : c1 ∈ ["tuple", "str", "bool", "int", "list"]) (h2 : c2 ∈ ["tuple", "str", "bool", "int", "list"]) :
    CallR X (.builtin "isinstance") (fun xs H Q => ∃ x t p, xs = [x, .ref p] ∧ SqT X.K H p [.ty c1, .ty c2] ∧ Has X.K H t x ∧ Q (.bl (isI c1 t || isI c2 t)) H) := by
  intro pins s σ H xs us Q I r h
  obtain ⟨x, t, p, rfl, hp, ht, q⟩ := h
  obtain ⟨u, w', rfl, ru, rw'⟩ := vals2 r
  cases rw'
  obtain ⟨its, rv, pt, _⟩ := I.tuple hp
  obtain ⟨y1, y2, rfl, r1, r2⟩ := vals2 rv
  cases r1
  cases r2
  obtain ⟨⟨oc, od, odt, osl⟩, g1, g2, n, g3⟩ := pt
  have g2' : oc = .type "tuple" := g2
  have g3' : odt = .seq _ n := g3
  subst g2' g3'
  have e1 : PySem.W.kitOne X.K (.type t.ty) (.type c1) = some (isI c1 t) := kit_type.trans (kit_ty h1 t)
  have e2 : PySem.W.kitOne X.K (.type t.ty) (.type c2) = some (isI c2 t) := kit_type.trans (kit_ty h2 t)
  have e : PySem.W.kitAny X.K (.type t.ty) [.type c1, .type c2] = some (isI c1 t || isI c2 t) := by
    unfold PySem.W.kitAny
    rw [e1]
    cases isI c1 t with
    | true => rfl
    | false =>
      unfold PySem.W.kitAny
      rw [e2]
      cases isI c2 t <;> rfl
  have fin : ∀ tk, EP X pins σ Q (.bool (isI c1 t || isI c2 t)) { s with toks := tk } := fun tk => ⟨.bl _, H, I.tok tk, rfl, q⟩
  cases t with
  | non =>
    obtain rfl : x = .non := ht
    cases ru
    exact PySem.W.kia_tup PySem.W.kitx_none I.kIn True.intro g1 e (fun z => nomatch z) fin
  | bl b =>
    obtain rfl : x = .bl b := ht
    cases ru
    exact PySem.W.kia_tup PySem.W.kitx_bool I.kIn True.intro g1 e (fun z => nomatch z) fin
  | int i =>
    obtain rfl : x = .int i := ht
    obtain ⟨t, rfl⟩ := ru
    exact PySem.W.kia_tup PySem.W.kitx_int I.kIn True.intro g1 e (fun z => nomatch z) fin
  | str z =>
    obtain rfl : x = .str z := ht
    obtain ⟨t, rfl⟩ := ru
    exact PySem.W.kia_tup PySem.W.kitx_str I.kIn True.intro g1 e (fun z => nomatch z) fin
  | tup ts =>
    obtain ⟨a, vs, rfl, hS, _⟩ := ht
    cases ru
    obtain ⟨its, _, ⟨o, q1, q2, _⟩, _⟩ := I.tuple hS
    exact PySem.W.kia_tup PySem.W.kitx_tuple I.kIn ⟨o, q1, q2⟩ g1 e (fun z => nomatch z) fin
  | lst ts =>
    obtain ⟨a, vs, rfl, hS, _⟩ := ht
    cases ru
    obtain ⟨its, _, ⟨o, n, q1, q2, _⟩, _⟩ := I.list (SqL.of hS)
    exact PySem.W.kia_tup PySem.W.kitx_list I.kIn ⟨o, q1, q2⟩ g1 e (fun z => nomatch z) fin
/-- a list of its own, changed: what stood before it stays -/
theorem Same.own {H0 H : Hp} {p : Addr} (s : Same H0 H) (h : H0 p = none) (o : HO) : Same H0 (upd H p o) := fun b u q => by rw [upd_ne (ne_of_none q h)]; exact s b u q
/-- the same rules where the context is a block's: its module's part is named -/
theorem ix_tupK {X : Cx} {K : PySem.W.Frag} (h : X.K = K) : IxR X (rIxT K) := h ▸ ix_tup
theorem ix_listK {X : Cx} {K : PySem.W.Frag} (h : X.K = K) : IxR X (rIxL K) := h ▸ ix_list
/-! ### slices of any thing -/
section
variable {prog : Program} {w : World} {A : Around} {E : Value → Shared → Prop} {s : Shared}
theorem getItem_tuple_all {t sl : Addr} {items : Array Value} {vl vu : Value} {lo hi : Option Int} {Q : Value → Shared → Prop} (ht : IsTup s.heap t items) (hs : s.heap.IsSliceOf sl vl vu .none) (pl : IsPart vl lo) (pu : IsPart vu hi)
    (hw : HT.sIx items.size 0 lo = 0 ∧ HT.sIx items.size items.size hi = items.size) (h : Q (.ref t) s) : wpAny (model prog w) A (getItem (.ref t) (.ref sl)) Q E s := by
  obtain ⟨os, hos, hcs, hds⟩ := id hs
  have hTs : s.TypeIs (.ref sl) "slice" := ⟨os, hos, hcs⟩
  unfold getItem
  try with_reducible refine wpAny_holding ?_
  first | refine wpAny_bind (wpAny_pure ?_) | skip
  refine wpAny_bind (wpAny_sequenceKey ht.typeIs (by decide) ?_)
  refine wpAny_bind (wpAny_callSpecial?_slot (name := Str.ofString "__getitem__") ht.typeIs PyProof.Rows.slot_tuple_getitem
    (wpAny_call_entry PyProof.Rows.slot_tuple_getitem ht.typeIs entry_tuple_getitem ?_ (args_tuple_getitem _ _)))
  show wpAny _ _ (Builtin.Tuple.tupleItemsOf (.ref t) >>= _) _ _ s
  refine wpAny_bind (tupleItemsOf_ ht ?_)
  refine wpAny_bind (wpAny_typeOf hTs ?_)
  rw [if_pos (by decide)]
  refine wpAny_bind (HT.sliceApplied_gen hs pl pu ?_)
  have hyes : (((HT.sIx items.size 0 lo : Nat) : Int) == 0 && (1 : Int) == 1 && (HT.sIx items.size items.size hi - HT.sIx items.size 0 lo) == items.size) = true := by
    rw [hw.1, hw.2]
    simp
  show wpAny _ _ (if (((HT.sIx items.size 0 lo : Nat) : Int) == 0 && (1 : Int) == 1 && (HT.sIx items.size items.size hi - HT.sIx items.size 0 lo) == items.size) = true then _ else _) _ _ s
  rw [if_pos hyes]
  unfold Builtin.Tuple.tupleIsExact
  refine wpAny_bind (wpAny_bind (wpAny_typeOf ht.typeIs (wpAny_pure ?_)))
  rw [if_pos (by decide)]
  first
    | exact wpAny_bind (wpAny_rule (wpAny_pure ⟨_, rfl, wpAny_pure h⟩))
    | exact wpAny_bind (wpAny_rule (wpAny_bind (wpAny_pure (wpAny_pure ⟨_, rfl, wpAny_pure h⟩))))
end
section
variable {X : Cx}
/-- t[lo:hi], the whole of it or not, by what comes alone -/
def rSlU (K : PySem.W.Frag) : V → Option Int → Option Int → Hp → VK → Prop := fun x lo hi H Q => ∃ a xs, x = .ref a ∧ SqT K H a xs ∧ ∀ v H', Same H H' → (∃ c, v = .ref c ∧ SqT K H' c (cutV xs lo hi)) → Q v H'
theorem sl_tupU : SlR X (rSlU X.K) := by
  intro pins s σ H x v vl vu lo hi sl Q I rx hs pl pu h
  obtain ⟨a, xs, rfl, hx, q⟩ := h
  by_cases hw : HT.sIx xs.length 0 lo = 0 ∧ HT.sIx xs.length xs.length hi = xs.length
  · cases rx
    obtain ⟨its, r, ht, hz⟩ := I.tuple hx
    have hlen : its.toArray.size = xs.length := by rw [List.size_toArray]; exact r.length.symm
    refine ⟨"tuple", _, PyProof.Rows.slot_tuple_getitem.lookup, ht.typeIs, ?_⟩
    refine getItem_tuple_all ht hs pl pu (by rw [hlen]; exact hw) ⟨.ref a, H, I, rfl, q _ _ (Same.refl H) ⟨a, rfl, ?_⟩⟩
    have e : cutV xs lo hi = xs := by
      unfold cutV
      rw [hw.1, hw.2]
      simp
    rw [e]
    exact hx
  · exact sl_tup pins s σ H _ v vl vu lo hi sl Q I rx hs pl pu ⟨a, xs, rfl, hx, hw, fun p hp => q _ _ (same_upd hp _) ⟨p, rfl, SqT.of upd_same⟩⟩
/-- a text's slice that is the whole of it -/
def rSlX : V → Option Int → Option Int → Hp → VK → Prop := fun x lo hi H Q => ∃ z, x = .str z ∧ ((Builtin.Str.strSliceIndices lo hi 1 z.length).length == z.length) = true ∧ Q (.str z) H
theorem sl_strX : SlR X rSlX := by
  intro pins s σ H x v vl vu lo hi sl Q I rx hs pl pu h
  obtain ⟨z, rfl, hz, q⟩ := h
  obtain ⟨t, rfl⟩ := rx
  refine ⟨"str", _, PyProof.Rows.slot_str_getitem.lookup, typeIs_str s z t, ?_⟩
  obtain ⟨l, rfl, el⟩ : ∃ l : Option (Int × Tok), vl = partValue l ∧ l.map (·.1) = lo := by
    cases pl with
    | none => exact ⟨none, rfl, rfl⟩
    | int i t => exact ⟨some (i, t), rfl, rfl⟩
  obtain ⟨u, rfl, eu⟩ : ∃ u : Option (Int × Tok), vu = partValue u ∧ u.map (·.1) = hi := by
    cases pu with
    | none => exact ⟨none, rfl, rfl⟩
    | int i t => exact ⟨some (i, t), rfl, rfl⟩
  refine wpAny_getItem_str_slice (l := l) (u := u) (st := none) hs rfl ?_
  have e : sliceMade z t l u none = .val (.str z t) := by
    unfold sliceMade slicePicked
    rw [el, eu]
    exact if_pos (by rw [Bool.and_eq_true]; exact ⟨rfl, hz⟩)
  rw [e]
  exact ⟨.str z, H, I, ⟨_, rfl⟩, q⟩
end
/-! ### a thing all of whose own objects are among F -/
def SqTF (K : PySem.W.Frag) (H : Hp) (F : Addr → Prop) (a : Addr) (xs : List V) : Prop := (Rd H a (.tup xs) ∧ F a) ∨
  ∃ (o : Obj) (its : Array Value) (n : Nat), K.lookup a = some o ∧ o.cls = .type "tuple" ∧ o.data = .seq its n ∧ its.size ≤ sizeLine ∧ Vals xs its.toList
theorem SqTF.t {K : PySem.W.Frag} {H : Hp} {F : Addr → Prop} {a : Addr} {xs : List V} (h : SqTF K H F a xs) : SqT K H a xs := h.elim (fun z => .inl z.1) .inr
theorem SqTF.of {K : PySem.W.Frag} {H : Hp} {F : Addr → Prop} {a : Addr} {xs : List V} (h : H a = some (.tup xs)) (hf : F a) : SqTF K H F a xs := .inl ⟨.inl h, hf⟩
mutual
def HasF (K : PySem.W.Frag) (H : Hp) (F : Addr → Prop) : Th → V → Prop
  | .non, v => v = .non
  | .bl b, v => v = .bl b
  | .int i, v => v = .int i
  | .str x, v => v = .str x
  | .tup ts, v => ∃ a vs, v = .ref a ∧ SqTF K H F a vs ∧ HasFL K H F ts vs
  | .lst ts, v => ∃ a vs, v = .ref a ∧ (H a = some (.lst vs) ∧ F a) ∧ HasFL K H F ts vs
def HasFL (K : PySem.W.Frag) (H : Hp) (F : Addr → Prop) : List Th → List V → Prop
  | [], vs => vs = []
  | t :: ts, vs => ∃ v r, vs = v :: r ∧ HasF K H F t v ∧ HasFL K H F ts r
end
section
variable {K : PySem.W.Frag} {H H' : Hp} {F F' : Addr → Prop}
mutual
theorem HasF.has : ∀ {t : Th} {v : V}, HasF K H F t v → Has K H t v
  | .non, _, h => h
  | .bl _, _, h => h
  | .int _, _, h => h
  | .str _, _, h => h
  | .tup _, _, ⟨a, vs, e, q, r⟩ => ⟨a, vs, e, q.t, HasFL.has r⟩
  | .lst _, _, ⟨a, vs, e, q, r⟩ => ⟨a, vs, e, q.1, HasFL.has r⟩
theorem HasFL.has : ∀ {ts : List Th} {vs : List V}, HasFL K H F ts vs → HasL K H ts vs
  | [], _, h => h
  | _ :: _, _, ⟨v, r, e, q, z⟩ => ⟨v, r, e, HasF.has q, HasFL.has z⟩
end
mutual
theorem HasF.of : ∀ {t : Th} {v : V}, Has K H t v → HasF K H (fun b => H b ≠ none) t v
  | .non, _, h => h
  | .bl _, _, h => h
  | .int _, _, h => h
  | .str _, _, h => h
  | .tup _, _, ⟨a, vs, e, q, r⟩ => ⟨a, vs, e, q.elim (fun z => .inl ⟨z, by
      rcases z with z | ⟨o, z⟩
      · show H a ≠ none; rw [z]; intro y; cases y
      · show H a ≠ none; rw [z]; intro y; cases y⟩) .inr, HasFL.of r⟩
  | .lst _, _, ⟨a, vs, e, q, r⟩ => ⟨a, vs, e, ⟨q, by show H a ≠ none; rw [q]; intro y; cases y⟩, HasFL.of r⟩
theorem HasFL.of : ∀ {ts : List Th} {vs : List V}, HasL K H ts vs → HasFL K H (fun b => H b ≠ none) ts vs
  | [], _, h => h
  | _ :: _, _, ⟨v, r, e, q, z⟩ => ⟨v, r, e, HasF.of q, HasFL.of z⟩
end
/-- other heaps, a wider F -/
theorem SqTF.move {a : Addr} {xs : List V} (h : SqTF K H F a xs) (s : ∀ b o, F b → H b = some o → H' b = some o) (w : ∀ b, F b → F' b) : SqTF K H' F' a xs := by
  rcases h with ⟨z | ⟨o, z⟩, f⟩ | z
  · exact .inl ⟨.inl (s _ _ f z), w _ f⟩
  · exact .inl ⟨.inr ⟨o, s _ _ f z⟩, w _ f⟩
  · exact .inr z
mutual
theorem HasF.move (s : ∀ b o, F b → H b = some o → H' b = some o) (w : ∀ b, F b → F' b) : ∀ {t : Th} {v : V}, HasF K H F t v → HasF K H' F' t v
  | .non, _, h => h
  | .bl _, _, h => h
  | .int _, _, h => h
  | .str _, _, h => h
  | .tup _, _, ⟨a, vs, e, q, r⟩ => ⟨a, vs, e, q.move s w, HasFL.move s w r⟩
  | .lst _, _, ⟨a, vs, e, q, r⟩ => ⟨a, vs, e, ⟨s _ _ q.2 q.1, w _ q.2⟩, HasFL.move s w r⟩
theorem HasFL.move (s : ∀ b o, F b → H b = some o → H' b = some o) (w : ∀ b, F b → F' b) : ∀ {ts : List Th} {vs : List V}, HasFL K H F ts vs → HasFL K H' F' ts vs
  | [], _, h => h
  | _ :: _, _, ⟨v, r, e, q, z⟩ => ⟨v, r, e, HasF.move s w q, HasFL.move s w z⟩
end
theorem HasF.mono (s : Same H H') {t : Th} {v : V} (h : HasF K H F t v) : HasF K H' F t v := h.move (fun b o _ q => s b o q) fun _ f => f
theorem HasFL.mono (s : Same H H') {ts : List Th} {vs : List V} (h : HasFL K H F ts vs) : HasFL K H' F ts vs := h.move (fun b o _ q => s b o q) fun _ f => f
theorem HasF.weak (w : ∀ b, F b → F' b) {t : Th} {v : V} (h : HasF K H F t v) : HasF K H F' t v := h.move (fun _ _ _ q => q) w
theorem HasFL.weak (w : ∀ b, F b → F' b) {ts : List Th} {vs : List V} (h : HasFL K H F ts vs) : HasFL K H F' ts vs := h.move (fun _ _ _ q => q) w
/-- one's own object is changed -/
theorem HasF.upd {p : Addr} (hp : ¬ F p) (o : HO) {t : Th} {v : V} (h : HasF K H F t v) : HasF K (L2.upd H p o) F t v := h.move (fun b u f q => by have nb : b ≠ p := (fun z => hp (by rw [← z]; exact f)); rw [upd_ne nb]; exact q) fun _ f => f
theorem HasFL.upd {p : Addr} (hp : ¬ F p) (o : HO) {ts : List Th} {vs : List V} (h : HasFL K H F ts vs) : HasFL K (L2.upd H p o) F ts vs := h.move (fun b u f q => by have nb : b ≠ p := (fun z => hp (by rw [← z]; exact f)); rw [upd_ne nb]; exact q) fun _ f => f
theorem HasFL.nil : HasFL K H F [] [] := rfl
theorem HasFL.cons {t : Th} {ts : List Th} {v : V} {vs : List V} (h : HasF K H F t v) (r : HasFL K H F ts vs) : HasFL K H F (t :: ts) (v :: vs) := ⟨v, vs, rfl, h, r⟩
theorem HasFL.length {ts : List Th} {vs : List V} (h : HasFL K H F ts vs) : vs.length = ts.length := h.has.length
theorem HasFL.get : ∀ {ts : List Th} {vs : List V} {i : Nat} {t : Th}, HasFL K H F ts vs → ts[i]? = some t → ∃ v, vs[i]? = some v ∧ HasF K H F t v
  | [], _, _, _, _, e => by simp at e
  | _ :: _, _, 0, _, ⟨v, r, e, q, _⟩, e2 => by
    rw [List.getElem?_cons_zero] at e2
    cases e2
    exact ⟨v, by rw [e]; rfl, q⟩
  | _ :: _, _, i + 1, _, ⟨v, r, e, _, z⟩, e2 => by
    rw [List.getElem?_cons_succ] at e2
    obtain ⟨u, h1, h2⟩ := HasFL.get z e2
    exact ⟨u, by rw [e, List.getElem?_cons_succ]; exact h1, h2⟩
theorem HasFL.get' {ts : List Th} {vs : List V} {i : Nat} {v : V} (h : HasFL K H F ts vs) (e : vs[i]? = some v) : ∃ t, ts[i]? = some t ∧ HasF K H F t v := by
  have hl := h.length
  have hi : i < vs.length := (List.getElem?_eq_some_iff.mp e).1
  have hi' : i < ts.length := by omega
  obtain ⟨u, h1, h2⟩ := h.get (List.getElem?_eq_getElem hi')
  rw [e] at h1
  cases h1
  exact ⟨_, List.getElem?_eq_getElem hi', h2⟩
theorem HasFL.append : ∀ {ts us : List Th} {vs ws : List V}, HasFL K H F ts vs → HasFL K H F us ws → HasFL K H F (ts ++ us) (vs ++ ws)
  | [], _, _, _, h, g => by
    have h' : _ = [] := h
    rw [h']
    exact g
  | _ :: _, _, _, _, ⟨v, r, e, q, z⟩, g => by
    rw [e]
    exact ⟨v, r ++ _, rfl, q, HasFL.append z g⟩
theorem HasFL.take : ∀ {ts : List Th} {vs : List V} (n : Nat), HasFL K H F ts vs → HasFL K H F (ts.take n) (vs.take n)
  | _, _, 0, _ => (rfl : List.take 0 _ = [])
  | [], _, n + 1, h => by
    have h' : _ = [] := h
    rw [h']
    exact (rfl : List.take (n + 1) ([] : List V) = [])
  | _ :: _, _, n + 1, ⟨v, r, e, q, z⟩ => by rw [e]; exact ⟨v, r.take n, rfl, q, HasFL.take n z⟩
theorem HasFL.drop : ∀ {ts : List Th} {vs : List V} (n : Nat), HasFL K H F ts vs → HasFL K H F (ts.drop n) (vs.drop n)
  | _, _, 0, h => h
  | [], _, n + 1, h => by
    have h' : _ = [] := h
    rw [h']
    exact (rfl : List.drop (n + 1) ([] : List V) = [])
  | _ :: _, _, n + 1, ⟨v, r, e, _, z⟩ => by rw [e]; exact HasFL.drop n z
theorem HasFL.set {t : Th} {v : V} (g : HasF K H F t v) : ∀ {ts : List Th} {vs : List V} (i : Nat), HasFL K H F ts vs → HasFL K H F (ts.set i t) (vs.set i v)
  | [], _, _, h => by
    have h' : _ = [] := h
    rw [h']
    exact rfl
  | _ :: _, _, 0, ⟨u, r, e, _, z⟩ => by rw [e]; exact ⟨v, r, rfl, g, z⟩
  | _ :: _, _, i + 1, ⟨u, r, e, q, z⟩ => by rw [e]; exact ⟨u, r.set i v, rfl, q, HasFL.set g i z⟩
theorem HasFL.rep {t : Th} {v : V} (h : HasF K H F t v) : ∀ k : Nat, HasFL K H F (List.replicate k t) (List.replicate k [v]).flatten
  | 0 => HasFL.nil
  | k + 1 => by
    rw [List.replicate_succ, List.replicate_succ, List.flatten_cons]
    exact HasFL.cons h (HasFL.rep h k)
theorem HasFL.reps {ts : List Th} {vs : List V} (h : HasFL K H F ts vs) : ∀ k : Nat, ∃ us, HasFL K H F us (List.replicate k vs).flatten
  | 0 => ⟨[], HasFL.nil⟩
  | k + 1 => by
    obtain ⟨us, hu⟩ := HasFL.reps h k
    rw [List.replicate_succ, List.flatten_cons]
    exact ⟨_, h.append hu⟩
theorem HasFL.cut {ts : List Th} {vs : List V} (h : HasFL K H F ts vs) (lo hi : Option Int) : ∃ us, HasFL K H F us (cutV vs lo hi) := ⟨_, (h.drop _).take _⟩
end
/-- an item of a list or a tuple -/
def rIxA (K : PySem.W.Frag) : R2 := fun x y H Q => ∃ p xs i v, x = .ref p ∧ y = .int i ∧ (SqL K H p xs ∨ SqT K H p xs) ∧ atI xs i = some v ∧ Q v H
theorem ix_any {X : Cx} : IxR X (rIxA X.K) := fun value slice pins s σ H x y v u Q I rx ry h hs => by
  obtain ⟨p, xs, i, z, e1, e2, hq, ha, q⟩ := h
  rcases hq with hq | hq
  · exact ix_list value slice pins s σ H x y v u Q I rx ry ⟨p, xs, i, z, e1, e2, hq, ha, q⟩ hs
  · exact ix_tup value slice pins s σ H x y v u Q I rx ry ⟨p, xs, i, z, e1, e2, hq, ha, q⟩ hs
/-- t[lo:hi] that is the whole of t -/
def rSlW (K : PySem.W.Frag) : V → Option Int → Option Int → Hp → VK → Prop := fun x lo hi H Q => ∃ a xs, x = .ref a ∧ SqT K H a xs ∧ (HT.sIx xs.length 0 lo = 0 ∧ HT.sIx xs.length xs.length hi = xs.length) ∧ Q (.ref a) H
theorem sl_tupW {X : Cx} : SlR X (rSlW X.K) := by
  intro pins s σ H x v vl vu lo hi sl Q I rx hs pl pu h
  obtain ⟨a, xs, rfl, hx, hw, q⟩ := h
  cases rx
  obtain ⟨its, r, ht, hz⟩ := I.tuple hx
  have hlen : its.toArray.size = xs.length := by rw [List.size_toArray]; exact r.length.symm
  exact ⟨"tuple", _, PyProof.Rows.slot_tuple_getitem.lookup, ht.typeIs, getItem_tuple_all ht hs pl pu (by rw [hlen]; exact hw) ⟨.ref a, H, I, rfl, q⟩⟩
section
variable {K : PySem.W.Frag} {H : Hp} {F : Addr → Prop}
mutual
theorem HasF.dom : ∀ {t : Th} {v : V}, HasF K H F t v → HasF K H (fun b => F b ∧ H b ≠ none) t v
  | .non, _, h => h
  | .bl _, _, h => h
  | .int _, _, h => h
  | .str _, _, h => h
  | .tup _, _, ⟨a, vs, e, q, r⟩ => ⟨a, vs, e, q.elim (fun z => .inl ⟨z.1, z.2, by
      rcases z.1 with y | ⟨o, y⟩
      · rw [y]; intro x; cases x
      · rw [y]; intro x; cases x⟩) .inr, HasFL.dom r⟩
  | .lst _, _, ⟨a, vs, e, q, r⟩ => ⟨a, vs, e, ⟨q.1, q.2, by rw [q.1]; intro x; cases x⟩, HasFL.dom r⟩
theorem HasFL.dom : ∀ {ts : List Th} {vs : List V}, HasFL K H F ts vs → HasFL K H (fun b => F b ∧ H b ≠ none) ts vs
  | [], _, h => h
  | _ :: _, _, ⟨v, r, e, q, z⟩ => ⟨v, r, e, HasF.dom q, HasFL.dom z⟩
end
end
end L3
/-! EXT3: zip of two lists or tuples; a comprehension with two names -/
namespace L3
open PySem PySem.Spec PyProof.Rows L2
/-- a list (false) or a tuple (true), and an iterator of it -/
def SqO (h : Heap) : Bool → Addr → Array Value → Prop
  | true, a, xs => h.IsTuple a xs
  | false, a, xs => h.IsList a xs
def ItO (h : Heap) : Bool → Addr → Addr → Nat → Prop
  | true, it, a, n => h.IsTupleIter it a n
  | false, it, a, n => h.IsListIter it a n
theorem SqO.at {h h' : Heap} {k : Bool} {a : Addr} {xs : Array Value} (x : SqO h k a xs) (e : ∀ o, h.get? a = some o → h'.get? a = some o) : SqO h' k a xs := by
  cases k <;> (obtain ⟨o, ho, r⟩ := x; exact ⟨o, e o ho, r⟩)
theorem ItO.at {h h' : Heap} {k : Bool} {it a : Addr} {n : Nat} (x : ItO h k it a n) (e : ∀ o, h.get? it = some o → h'.get? it = some o) : ItO h' k it a n := by
  cases k <;> (obtain ⟨o, ho, r⟩ := x; exact ⟨o, e o ho, r⟩)
theorem ItO.obj {h : Heap} {k : Bool} {it a : Addr} {n : Nat} (x : ItO h k it a n) : ∃ o, h.get? it = some o ∧ ∀ v, o.data ≠ .cell v := by
  cases k <;> (obtain ⟨o, ho, _, d⟩ := x; exact ⟨o, ho, fun v z => by rw [d] at z; cases z⟩)
theorem SqO.lt {h : Heap} {k : Bool} {a : Addr} {xs : Array Value} (x : SqO h k a xs) : a < h.objs.size := by
  cases k <;> (obtain ⟨o, ho, _⟩ := x; exact Heap.lt_size ho)
section
variable {prog : Program} {w : World} {A : Around} {E : Value → Shared → Prop} {s : Shared}
theorem nextT_item {it t : Addr} {i : Nat} {xs : Array Value} {x : Value} {Q : Value → Shared → Prop} (hit : s.heap.IsTupleIter it t i) (ht : s.heap.IsTuple t xs) (hx : xs[i]? = some x)
    (q : ∀ h', h'.IsTupleIter it t (i + 1) → Heap.SameBut it s.heap h' → Q x { s with heap := h' }) : wpAny (model prog w) A (Builtin.SmallTypes.nextOf (.ref it)) Q E s := by
  obtain ⟨u, hu, cu, du⟩ := id hit; obtain ⟨v, hv, _, nv, dv⟩ := ht
  unfold Builtin.SmallTypes.nextOf
  refine wpAny_bind (wpAny_callSpecial?_slot (name := Str.ofString "__next__") hit.typeIs F.slot_tuple_iterator_next (wpAny_call_entry F.slot_tuple_iterator_next hit.typeIs F.entry_tuple_iterator_next ?_ (F.args_tuple_iterator_next_1 _)))
  show wpAny _ _ (field (.ref it) 0 >>= _) _ _ _; refine wpAny_bind (wpAny_field hu du (x := .ref t) rfl ?_)
  show wpAny _ _ (if (Value.ref t == Value.none) = true then _ else _) _ _ _; rw [if_neg (by intro z; cases z)]
  show wpAny _ _ (field (.ref it) 1 >>= _) _ _ _; refine wpAny_bind (wpAny_field hu du (x := .int i 0) rfl ?_)
  show wpAny _ _ (seqItems? (.ref t) >>= _) _ _ _; refine wpAny_bind (wpAny_seqItems hv dv ?_)
  simp only [hx, Int.toNat_natCast]
  exact wpAny_bind (wpAny_setField hu du (by simp) (wpAny_pure ⟨x, rfl, wpAny_pure (q _ ⟨_, Heap.get?_update_self _ hu (Obj.isFreed_of_fields (Obj.data_mapFields du _)), (Obj.cls_mapFields ..).trans cu, by rw [Obj.data_mapFields du]; simp [rawInt]⟩ (Heap.SameBut.update ..))⟩))
theorem nextT_end {it t : Addr} {i : Nat} {xs : Array Value} {Q : Value → Shared → Prop} (hh : A.handled = none) (hit : s.heap.IsTupleIter it t i) (ht : s.heap.IsTuple t xs) (hx : xs[i]? = none)
    (q : ∀ h' e, Heap.ExtBut it s.heap h' → (∃ o, h'.get? e = some o ∧ o.cls = .type "StopIteration") → E (.ref e) { s with heap := h' }) : wpAny (model prog w) A (Builtin.SmallTypes.nextOf (.ref it)) Q E s := by
  obtain ⟨u, hu, cu, du⟩ := id hit; obtain ⟨v, hv, _, nv, dv⟩ := ht
  unfold Builtin.SmallTypes.nextOf
  refine wpAny_bind (wpAny_callSpecial?_slot (name := Str.ofString "__next__") hit.typeIs F.slot_tuple_iterator_next (wpAny_call_entry F.slot_tuple_iterator_next hit.typeIs F.entry_tuple_iterator_next ?_ (F.args_tuple_iterator_next_1 _)))
  show wpAny _ _ (field (.ref it) 0 >>= _) _ _ _; refine wpAny_bind (wpAny_field hu du (x := .ref t) rfl ?_)
  show wpAny _ _ (if (Value.ref t == Value.none) = true then _ else _) _ _ _; rw [if_neg (by intro z; cases z)]
  show wpAny _ _ (field (.ref it) 1 >>= _) _ _ _; refine wpAny_bind (wpAny_field hu du (x := .int i 0) rfl ?_)
  show wpAny _ _ (seqItems? (.ref t) >>= _) _ _ _; refine wpAny_bind (wpAny_seqItems hv dv ?_)
  simp only [hx, Int.toNat_natCast]
  refine wpAny_bind (wpAny_rule (wpAny_bind (wpAny_setField hu du (by simp) ?_))); show wpAny _ _ (newExc (.type "StopIteration") [] >>= _) _ _ _
  refine wpAny_bind ?_; simp only [newTuple, newExc]
  refine wpAny_bind (wpAny_newObj_type ?_ (by size_fits)); refine wpAny_bind (m := firstArgMember _ _) (wpAny_of_eq (a := Value.none) (by first | rfl | (simp only [firstArgMember]; rfl)) (wpAny_newObj_type ?_ (by size_fits)))
  simp only [raiseNew]
  refine wpAny_bind (wpAny_handled ?_); first | rw [hh] | rw [show A.in1.handled = none from hh]
  exact wpAny_bind (wpAny_pure (wpAny_throw (q _ _ (((Heap.SameBut.update ..).extBut.push _).push _) ⟨_, Heap.get?_push_size _ rfl, rfl⟩)))
theorem nextO_item {k : Bool} {it t : Addr} {i : Nat} {xs : Array Value} {x : Value} {Q : Value → Shared → Prop} (hit : ItO s.heap k it t i) (ht : SqO s.heap k t xs) (hx : xs[i]? = some x)
    (q : ∀ h', ItO h' k it t (i + 1) → Heap.SameBut it s.heap h' → Q x { s with heap := h' }) : wpAny (model prog w) A (Builtin.SmallTypes.nextOf (.ref it)) Q E s := by
  cases k with
  | false => exact wpAny_nextOf_list_item (show s.heap.IsListIter it t i from hit) (show s.heap.IsList t xs from ht) hx q
  | true => exact nextT_item hit ht hx q
theorem nextO_end {k : Bool} {it t : Addr} {i : Nat} {xs : Array Value} {Q : Value → Shared → Prop} (hh : A.handled = none) (hit : ItO s.heap k it t i) (ht : SqO s.heap k t xs) (hx : xs[i]? = none)
    (q : ∀ h' e, Heap.ExtBut it s.heap h' → (∃ o, h'.get? e = some o ∧ o.cls = .type "StopIteration") → E (.ref e) { s with heap := h' }) : wpAny (model prog w) A (Builtin.SmallTypes.nextOf (.ref it)) Q E s := by
  cases k with
  | false => exact wpAny_nextOf_list_end hh (show s.heap.IsListIter it t i from hit) (show s.heap.IsList t xs from ht) hx q
  | true => exact nextT_end hh hit ht hx q
/-- what zip keeps through its two draws -/
theorem zipO_item {z TI TO i1 i2 a1 a2 : Addr} {k1 k2 : Bool} {n m : Nat} {xs ys : Array Value} {x y a b : Value} {Q : Value → Shared → Prop} (D : ZipApart z TI TO i1 i2 a1 a2)
    (hz : IsZip s.heap z TI TO .none) (hI : IsPair s.heap TI (.ref i1) (.ref i2)) (hO : IsPair s.heap TO a b) (h1 : ItO s.heap k1 i1 a1 n) (h2 : ItO s.heap k2 i2 a2 m) (q1 : SqO s.heap k1 a1 xs) (q2 : SqO s.heap k2 a2 ys) (hx : xs[n]? = some x) (hy : ys[m]? = some y)
    (q : ∀ h', IsZip h' z TI TO (rawInt s.heap.objs.size) → IsPair h' TO x y → ItO h' k1 i1 a1 (n + 1) → ItO h' k2 i2 a2 (m + 1) → IsPair h' s.heap.objs.size x y → h'.objs.size = s.heap.objs.size + 1 →
      (∀ c o, c ≠ z → c ≠ TO → c ≠ i1 → c ≠ i2 → s.heap.get? c = some o → h'.get? c = some o) → Q (.ref s.heap.objs.size) { s with heap := h' }) :
    wpAny (model prog w) A (Builtin.«zip.__next__» ⟨[.ref z], []⟩) (fun fin s' => ∃ v, fin = .done (.ret v) ∧ Q v s') E s := by
  show wpAny _ _ (field (.ref z) 2 >>= _) _ _ _; refine wpAny_bind (wpAny_field hz rfl (x := .bool false) rfl ?_)
  show wpAny _ _ (field (.ref z) 3 >>= _) _ _ _; refine wpAny_bind (wpAny_field hz rfl (x := .ref TI) rfl (wpAny_bind (wpAny_seqItems hI rfl ?_)))
  show wpAny _ _ (Builtin.SmallTypes.ownedTupleIsFree (.ref z) >>= _) _ _ _; refine wpAny_bind ?_
  unfold Builtin.SmallTypes.ownedTupleIsFree
  refine wpAny_bind (wpAny_field hz rfl (x := .none) rfl (wpAny_pure ?_)); simp only [if_true]
  refine wpAny_bind (wpAny_rule (wpAny_bind (wpAny_field hz rfl (x := .ref TO) rfl (wpAny_bind (wpAny_setField_rec hz (by simp) fun g1 z1 s1 => ?_)))))
  replace z1 : IsZip g1 z TI TO .ellipsis := z1
  refine wpAny_bind ?_; simp only [List.forIn_cons, List.forIn_nil, List.zipIdx_cons, List.zipIdx_nil]
  refine wpAny_bind (wpAny_bind (wpAny_onRaise ?_)); show wpAny _ _ (Builtin.SmallTypes.nextOf (.ref i1) >>= _) _ _ _
  refine wpAny_bind (nextO_item (h1.at fun o e => s1.extBut _ _ D.i1z e) (q1.at fun o e => s1.extBut _ _ D.l1z e) hx fun g2 r2 s2 => wpAny_pure ?_)
  have p2 : IsPair g2 TO a b := s2.extBut _ _ D.TOi1 (s1.extBut _ _ D.TOz hO)
  refine wpAny_bind (wpAny_seqItems p2 rfl (wpAny_bind (wpAny_updateSeq_pair p2 fun g3 p3 s3 => wpAny_bind (wpAny_letGo (wpAny_pure ?_)))))
  replace p3 : IsPair g3 TO x b := p3
  refine wpAny_bind (wpAny_bind (wpAny_onRaise ?_)); show wpAny _ _ (Builtin.SmallTypes.nextOf (.ref i2) >>= _) _ _ _
  refine wpAny_bind (nextO_item (h2.at fun o e => s3.extBut _ _ D.TOi2.symm (s2.extBut _ _ D.i12.symm (s1.extBut _ _ D.i2z e))) (q2.at fun o e => s3.extBut _ _ D.l2TO (s2.extBut _ _ D.l2i1 (s1.extBut _ _ D.l2z e))) hy fun g4 r4 s4 => wpAny_pure ?_)
  have p4 : IsPair g4 TO x b := s4.extBut _ _ D.TOi2 p3
  refine wpAny_bind (wpAny_seqItems p4 rfl (wpAny_bind (wpAny_updateSeq_pair p4 fun g5 p5 s5 => wpAny_bind (wpAny_letGo (wpAny_pure (wpAny_pure ?_))))))
  replace p5 : IsPair g5 TO x y := p5
  refine wpAny_bind (wpAny_seqItems p5 rfl (wpAny_bind (wpAny_newTuple ?_)))
  have sz : g5.objs.size = s.heap.objs.size := by rw [s5.1, s4.1, s3.1, s2.1, s1.1]
  have z5 : IsZip g5 z TI TO .ellipsis := s5.extBut _ _ D.TOz.symm (s4.extBut _ _ D.i2z.symm (s3.extBut _ _ D.TOz.symm (s2.extBut _ _ D.i1z.symm z1)))
  have k5 : ∀ c o, c ≠ z → c ≠ TO → c ≠ i1 → c ≠ i2 → s.heap.get? c = some o → g5.get? c = some o := fun c o n1 n2 n3 n4 e => s5.extBut _ _ n2 (s4.extBut _ _ n4 (s3.extBut _ _ n2 (s2.extBut _ _ n3 (s1.extBut _ _ n1 e))))
  have r5 : ItO g5 k1 i1 a1 (n + 1) := r2.at fun o e => s5.extBut _ _ D.TOi1.symm (s4.extBut _ _ D.i12 (s3.extBut _ _ D.TOi1.symm e))
  have t5 : ItO g5 k2 i2 a2 (m + 1) := r4.at fun o e => s5.extBut _ _ D.TOi2.symm e
  have zlt : z < g5.objs.size := Heap.lt_size z5
  show wpAny _ _ (Builtin.SmallTypes.ownedTupleHandOut (.ref z) (.ref g5.objs.size) >>= _) _ _ _; refine wpAny_bind ?_
  unfold Builtin.SmallTypes.ownedTupleHandOut
  have z6 : IsZip (g5.push { cls := .type "tuple", data := .seq #[x, y] }) z TI TO .ellipsis := Heap.get?_push_of_some _ z5
  refine wpAny_bind (wpAny_setField_rec z6 (by simp) fun g7 z7 s7 => ?_)
  replace z7 : IsZip g7 z TI TO (rawInt g5.objs.size) := z7
  refine wpAny_setField_rec z7 (by simp) fun g8 z8 s8 => ?_
  replace z8 : IsZip g8 z TI TO (rawInt g5.objs.size) := z8
  have up : ∀ c o, c ≠ z → g5.get? c = some o → g8.get? c = some o := fun c o n1 e => s8.extBut _ _ n1 (s7.extBut _ _ n1 (Heap.get?_push_of_some _ e))
  have p8 : IsPair g8 g5.objs.size x y := s8.extBut _ _ (Nat.ne_of_gt zlt) (s7.extBut _ _ (Nat.ne_of_gt zlt) (Heap.get?_push_size _ rfl))
  have e8 : g8.objs.size = g5.objs.size + 1 := by rw [s8.1, s7.1, Heap.size_push]
  rw [sz] at z8 p8 e8
  refine wpAny_pure ⟨_, rfl, ?_⟩
  show Q (.ref g5.objs.size) _
  rw [sz]
  exact q g8 z8 (up _ _ D.TOz p5) (r5.at fun o e => up _ o D.i1z e) (t5.at fun o e => up _ o D.i2z e) p8 e8 fun c o n1 n2 n3 n4 e => up c o n1 (k5 c o n1 n2 n3 n4 e)
theorem zipO_end {z TI TO i1 i2 a1 a2 : Addr} {k1 k2 : Bool} {n m : Nat} {xs ys : Array Value} {a b : Value} {Q : Fin → Shared → Prop} (hh : A.handled = none) (D : ZipApart z TI TO i1 i2 a1 a2)
    (hz : IsZip s.heap z TI TO .none) (hI : IsPair s.heap TI (.ref i1) (.ref i2)) (hO : IsPair s.heap TO a b) (h1 : ItO s.heap k1 i1 a1 n) (h2 : ItO s.heap k2 i2 a2 m) (q1 : SqO s.heap k1 a1 xs) (q2 : SqO s.heap k2 a2 ys) (hend : xs[n]? = none ∨ ys[m]? = none)
    (q : ∀ h' e, (∀ c o, c ≠ z → c ≠ TO → c ≠ i1 → c ≠ i2 → s.heap.get? c = some o → h'.get? c = some o) → (∃ o, h'.get? e = some o ∧ o.cls = .type "StopIteration") → E (.ref e) { s with heap := h' }) :
    wpAny (model prog w) A (Builtin.«zip.__next__» ⟨[.ref z], []⟩) Q E s := by
  show wpAny _ _ (field (.ref z) 2 >>= _) _ _ _; refine wpAny_bind (wpAny_field hz rfl (x := .bool false) rfl ?_)
  show wpAny _ _ (field (.ref z) 3 >>= _) _ _ _; refine wpAny_bind (wpAny_field hz rfl (x := .ref TI) rfl (wpAny_bind (wpAny_seqItems hI rfl ?_)))
  show wpAny _ _ (Builtin.SmallTypes.ownedTupleIsFree (.ref z) >>= _) _ _ _; refine wpAny_bind ?_
  unfold Builtin.SmallTypes.ownedTupleIsFree
  refine wpAny_bind (wpAny_field hz rfl (x := .none) rfl (wpAny_pure ?_)); simp only [if_true]
  refine wpAny_bind (wpAny_rule (wpAny_bind (wpAny_field hz rfl (x := .ref TO) rfl (wpAny_bind (wpAny_setField_rec hz (by simp) fun g1 z1 s1 => ?_)))))
  replace z1 : IsZip g1 z TI TO .ellipsis := z1
  refine wpAny_bind ?_; simp only [List.forIn_cons, List.forIn_nil, List.zipIdx_cons, List.zipIdx_nil]
  refine wpAny_bind (wpAny_bind (wpAny_onRaise ?_)); show wpAny _ _ (Builtin.SmallTypes.nextOf (.ref i1) >>= _) _ _ _
  cases hx : xs[n]? with
  | none =>
    refine wpAny_bind (nextO_end hh (h1.at fun o e => s1.extBut _ _ D.i1z e) (q1.at fun o e => s1.extBut _ _ D.l1z e) hx fun g2 e s2 he => ?_)
    obtain ⟨oe, ho, ce⟩ := he
    have z2 : IsZip g2 z TI TO .ellipsis := s2 _ _ D.i1z.symm z1
    have ez : e ≠ z := fun y => by subst y; rw [z2] at ho; cases ho; simp at ce
    exact wpAny_setField_rec z2 (by simp) fun g3 _ s3 => q g3 e (fun c o n1 _ n3 _ y => s3.extBut _ _ n1 (s2 _ _ n3 (s1.extBut _ _ n1 y))) ⟨oe, s3.extBut _ _ ez ho, ce⟩
  | some x =>
    have hy : ys[m]? = none := hend.elim (fun y => by rw [hx] at y; cases y) id
    refine wpAny_bind (nextO_item (h1.at fun o e => s1.extBut _ _ D.i1z e) (q1.at fun o e => s1.extBut _ _ D.l1z e) hx fun g2 r2 s2 => wpAny_pure ?_)
    have p2 : IsPair g2 TO a b := s2.extBut _ _ D.TOi1 (s1.extBut _ _ D.TOz hO)
    refine wpAny_bind (wpAny_seqItems p2 rfl (wpAny_bind (wpAny_updateSeq_pair p2 fun g3 p3 s3 => wpAny_bind (wpAny_letGo (wpAny_pure ?_)))))
    refine wpAny_bind (wpAny_bind (wpAny_onRaise ?_)); show wpAny _ _ (Builtin.SmallTypes.nextOf (.ref i2) >>= _) _ _ _
    refine wpAny_bind (nextO_end hh (h2.at fun o e => s3.extBut _ _ D.TOi2.symm (s2.extBut _ _ D.i12.symm (s1.extBut _ _ D.i2z e))) (q2.at fun o e => s3.extBut _ _ D.l2TO (s2.extBut _ _ D.l2i1 (s1.extBut _ _ D.l2z e))) hy fun g4 e s4 he => ?_)
    obtain ⟨oe, ho, ce⟩ := he
    have z4 : IsZip g4 z TI TO .ellipsis := s4 _ _ D.i2z.symm (s3.extBut _ _ D.TOz.symm (s2.extBut _ _ D.i1z.symm z1))
    have ez : e ≠ z := fun y => by subst y; rw [z4] at ho; cases ho; simp at ce
    exact wpAny_setField_rec z4 (by simp) fun g5 _ s5 => q g5 e (fun c o n1 n2 n3 n4 y => s5.extBut _ _ n1 (s4 _ _ n4 (s3.extBut _ _ n2 (s2.extBut _ _ n3 (s1.extBut _ _ n1 y))))) ⟨oe, s5.extBut _ _ ez ho, ce⟩
theorem nextZ_item {z TI TO i1 i2 a1 a2 : Addr} {k1 k2 : Bool} {n m : Nat} {xs ys : Array Value} {x y a b : Value} {Q : Option Value → Shared → Prop} (D : ZipApart z TI TO i1 i2 a1 a2)
    (hz : IsZip s.heap z TI TO .none) (hI : IsPair s.heap TI (.ref i1) (.ref i2)) (hO : IsPair s.heap TO a b) (h1 : ItO s.heap k1 i1 a1 n) (h2 : ItO s.heap k2 i2 a2 m) (q1 : SqO s.heap k1 a1 xs) (q2 : SqO s.heap k2 a2 ys) (hx : xs[n]? = some x) (hy : ys[m]? = some y)
    (q : ∀ h', IsZip h' z TI TO (rawInt s.heap.objs.size) → IsPair h' TO x y → ItO h' k1 i1 a1 (n + 1) → ItO h' k2 i2 a2 (m + 1) → IsPair h' s.heap.objs.size x y → h'.objs.size = s.heap.objs.size + 1 →
      (∀ c o, c ≠ z → c ≠ TO → c ≠ i1 → c ≠ i2 → s.heap.get? c = some o → h'.get? c = some o) → Q (some (.ref s.heap.objs.size)) { s with heap := h' }) : wpAny (model prog w) A (pyNext (.ref z)) Q E s := by
  have hT : s.TypeIs (.ref z) "zip" := ⟨_, hz, rfl⟩
  unfold pyNext
  exact wpAny_bind (wpAny_attempt (wpAny_callSpecial?_slot (name := Str.ofString "__next__") hT F.slot_zip_next (wpAny_call_entry F.slot_zip_next hT F.entry_zip_next (zipO_item D hz hI hO h1 h2 q1 q2 hx hy fun h' y1 y2 y3 y4 y5 y6 y7 => wpAny_pure (q h' y1 y2 y3 y4 y5 y6 y7)) (F.args_zip_next_1 _))))
theorem nextZ_end {z TI TO i1 i2 a1 a2 : Addr} {k1 k2 : Bool} {n m : Nat} {xs ys : Array Value} {a b : Value} {Q : Option Value → Shared → Prop} (hh : A.handled = none) (D : ZipApart z TI TO i1 i2 a1 a2)
    (hz : IsZip s.heap z TI TO .none) (hI : IsPair s.heap TI (.ref i1) (.ref i2)) (hO : IsPair s.heap TO a b) (h1 : ItO s.heap k1 i1 a1 n) (h2 : ItO s.heap k2 i2 a2 m) (q1 : SqO s.heap k1 a1 xs) (q2 : SqO s.heap k2 a2 ys) (hend : xs[n]? = none ∨ ys[m]? = none)
    (q : ∀ h', (∀ c o, c ≠ z → c ≠ TO → c ≠ i1 → c ≠ i2 → s.heap.get? c = some o → h'.get? c = some o) → Q none { s with heap := h' }) : wpAny (model prog w) A (pyNext (.ref z)) Q E s := by
  have hT : s.TypeIs (.ref z) "zip" := ⟨_, hz, rfl⟩
  unfold pyNext
  refine wpAny_bind (wpAny_attempt (wpAny_callSpecial?_slot (name := Str.ofString "__next__") hT F.slot_zip_next (wpAny_call_entry F.slot_zip_next hT F.entry_zip_next (zipO_end hh D hz hI hO h1 h2 q1 q2 hend fun h' e hk he => ?_) (F.args_zip_next_1 _))))
  obtain ⟨o, ho, hc⟩ := he
  exact wpAny_bind (wpAny_isInstance (T := "StopIteration") (b := true) ⟨o, ho, hc⟩ isSubtype_stop (wpAny_pure (q _ hk)))
end
/-! ### zip(a, b) made -/
def itOf (k : Bool) (a : Addr) : Obj := match k with
  | true => { cls := .type "tuple_iterator", data := .fields #[.ref a, .int 0 0] }
  | false => { cls := .type "list_iterator", data := .fields #[.ref a, .int 0 0] }
abbrev zO1 (h : Heap) (k1 : Bool) (a1 : Addr) : Heap := h.push (itOf k1 a1)
abbrev zO2 (h : Heap) (k1 k2 : Bool) (a1 a2 : Addr) : Heap := (zO1 h k1 a1).push (itOf k2 a2)
abbrev zO3 (h : Heap) (k1 k2 : Bool) (a1 a2 : Addr) : Heap := (zO2 h k1 k2 a1 a2).push { cls := .type "tuple", data := .seq #[.ref h.objs.size, .ref (zO1 h k1 a1).objs.size] }
abbrev zO4 (h : Heap) (k1 k2 : Bool) (a1 a2 : Addr) : Heap := (zO3 h k1 k2 a1 a2).push { cls := .type "tuple", data := .seq #[.none, .none] }
abbrev zO5 (h : Heap) (k1 k2 : Bool) (a1 a2 : Addr) : Heap := (zO4 h k1 k2 a1 a2).push { cls := .type "zip", data := .fields #[.none, .bool false, .bool false, .ref (zO2 h k1 k2 a1 a2).objs.size, .ref (zO3 h k1 k2 a1 a2).objs.size] }
theorem meets_zipO (k1 k2 : Bool) (a1 a2 : Addr) (xs ys : Array Value) :
    Meets (Builtin.«zip.__new__» ⟨[.type "zip", .ref a1, .ref a2], []⟩) (fun _ R s => SqO s.heap k1 a1 xs ∧ SqO s.heap k2 a2 ys ∧ R (.ok (.ret (.ref (zO4 s.heap k1 k2 a1 a2).objs.size))) { s with heap := zO5 s.heap k1 k2 a1 a2 }) :=
  .of_wp fun prog w A R s h => by
    obtain ⟨hp, g, d, tk, os⟩ := s; obtain ⟨q1, q2, h⟩ := h
    have hsub := sub_zip
    cases k1 <;> cases k2
    · have e1 : Heap.IsList (Shared.heap ⟨hp, g, d, tk, os⟩) a1 xs := q1
      have e2 : Heap.IsList (Shared.heap ⟨hp.push { cls := .type "list_iterator", data := .fields #[.ref a1, .int 0 0] }, g, d, tk, os⟩) a2 ys := Heap.IsList.push q2 _
      wp_walk using wpAny_pyIter_list e1, wpAny_pyIter_list e2
      exact ⟨_, rfl, h⟩
    · have e1 : Heap.IsList (Shared.heap ⟨hp, g, d, tk, os⟩) a1 xs := q1
      have e2 : Heap.IsTuple (Shared.heap ⟨hp.push { cls := .type "list_iterator", data := .fields #[.ref a1, .int 0 0] }, g, d, tk, os⟩) a2 ys := Heap.IsTuple.push q2 _
      wp_walk using wpAny_pyIter_list e1, wpAny_pyIter_tuple e2
      exact ⟨_, rfl, h⟩
    · have e1 : Heap.IsTuple (Shared.heap ⟨hp, g, d, tk, os⟩) a1 xs := q1
      have e2 : Heap.IsList (Shared.heap ⟨hp.push { cls := .type "tuple_iterator", data := .fields #[.ref a1, .int 0 0] }, g, d, tk, os⟩) a2 ys := Heap.IsList.push q2 _
      wp_walk using wpAny_pyIter_tuple e1, wpAny_pyIter_list e2
      exact ⟨_, rfl, h⟩
    · have e1 : Heap.IsTuple (Shared.heap ⟨hp, g, d, tk, os⟩) a1 xs := q1
      have e2 : Heap.IsTuple (Shared.heap ⟨hp.push { cls := .type "tuple_iterator", data := .fields #[.ref a1, .int 0 0] }, g, d, tk, os⟩) a2 ys := Heap.IsTuple.push q2 _
      wp_walk using wpAny_pyIter_tuple e1, wpAny_pyIter_tuple e2
      exact ⟨_, rfl, h⟩
theorem itOf_is {h : Heap} {k : Bool} {it a : Addr} (e : h.get? it = some (itOf k a)) : ItO h k it a 0 := by
  cases k <;> exact ⟨_, e, rfl, rfl⟩
theorem itOf_free (k : Bool) (a : Addr) : (itOf k a).isFreed = false := by cases k <;> rfl
section
variable {prog : Program} {w : World} {A : Around} {E : Value → Shared → Prop} {s : Shared}
theorem callZ_2 {k1 k2 : Bool} {a1 a2 : Addr} {xs ys : Array Value} {Q : Value → Shared → Prop} (q1 : SqO s.heap k1 a1 xs) (q2 : SqO s.heap k2 a2 ys)
    (h : ∀ h', IsZip h' (s.heap.objs.size + 4) (s.heap.objs.size + 2) (s.heap.objs.size + 3) .none → IsPair h' (s.heap.objs.size + 2) (.ref s.heap.objs.size) (.ref (s.heap.objs.size + 1)) →
      IsPair h' (s.heap.objs.size + 3) .none .none → ItO h' k1 s.heap.objs.size a1 0 → ItO h' k2 (s.heap.objs.size + 1) a2 0 → (∀ c o, s.heap.get? c = some o → h'.get? c = some o) → Q (.ref (s.heap.objs.size + 4)) { s with heap := h' }) :
    wpAny (model prog w) A (call (.type "zip") [.ref a1, .ref a2]) Q E s := by
  refine callType_new F.called_zip (by decide) (F.typeCall_zip_2 _ _) (F.newCall_zip_2 _ _) (fun obj => F.args_object_init_3 obj _ _) F.entry_zip_new (meets_zipO k1 k2 a1 a2 xs ys) ⟨q1, q2, ?_⟩
  have e1 : (zO1 s.heap k1 a1).objs.size = s.heap.objs.size + 1 := Heap.size_push ..
  have e2 : (zO2 s.heap k1 k2 a1 a2).objs.size = s.heap.objs.size + 2 := by rw [Heap.size_push, e1]
  have e3 : (zO3 s.heap k1 k2 a1 a2).objs.size = s.heap.objs.size + 3 := by rw [Heap.size_push, e2]
  have e4 : (zO4 s.heap k1 k2 a1 a2).objs.size = s.heap.objs.size + 4 := by rw [Heap.size_push, e3]
  have g5 : (zO5 s.heap k1 k2 a1 a2).get? (zO4 s.heap k1 k2 a1 a2).objs.size = some _ := Heap.get?_push_size _ rfl
  have g4 : (zO5 s.heap k1 k2 a1 a2).get? (zO3 s.heap k1 k2 a1 a2).objs.size = some _ := Heap.get?_push_of_some _ (Heap.get?_push_size _ rfl)
  have g3 : (zO5 s.heap k1 k2 a1 a2).get? (zO2 s.heap k1 k2 a1 a2).objs.size = some _ := Heap.get?_push_of_some _ (Heap.get?_push_of_some _ (Heap.get?_push_size _ rfl))
  have g2 : (zO5 s.heap k1 k2 a1 a2).get? (zO1 s.heap k1 a1).objs.size = some (itOf k2 a2) := Heap.get?_push_of_some _ (Heap.get?_push_of_some _ (Heap.get?_push_of_some _ (Heap.get?_push_size _ (itOf_free k2 a2))))
  have g1 : (zO5 s.heap k1 k2 a1 a2).get? s.heap.objs.size = some (itOf k1 a1) := Heap.get?_push_of_some _ (Heap.get?_push_of_some _ (Heap.get?_push_of_some _ (Heap.get?_push_of_some _ (Heap.get?_push_size _ (itOf_free k1 a1)))))
  show _ ∧ _
  rw [e2, e3, e4] at g5
  rw [e1, e2] at g3
  rw [e3] at g4
  rw [e1] at g2
  rw [e4]
  exact ⟨⟨_, g5, rfl⟩, h _ g5 g3 g4 (itOf_is g1) (itOf_is g2) fun c o x => Heap.get?_push_of_some _ (Heap.get?_push_of_some _ (Heap.get?_push_of_some _ (Heap.get?_push_of_some _ (Heap.get?_push_of_some _ x))))⟩
end
end L3
namespace L3
open PySem PySem.Spec PyProof.Rows L2
/-- a list or a tuple, tracked or the module's -/
def Sq (K : PySem.W.Frag) (H : Hp) : Bool → Addr → List V → Prop
  | true, a, xs => SqT K H a xs
  | false, a, xs => SqL K H a xs
section
variable {X : Cx} {pins : List (Addr × Obj)} {σ : L2.St} {H : Hp} {s : Shared}
theorem seqO (I : Inv X pins σ H s) {k : Bool} {a : Addr} {xs : List V} (h : Sq X.K H k a xs) : ∃ its : List Value, Vals xs its ∧ SqO s.heap k a its.toArray ∧ xs.length ≤ sizeLine := by
  cases k with
  | true => obtain ⟨its, r, p, z⟩ := I.tuple h; exact ⟨its, r, p, z⟩
  | false => obtain ⟨its, r, p, z⟩ := I.list h; exact ⟨its, r, p.isList, z⟩
theorem seq_inj (I : Inv X pins σ H s) {k : Bool} {a : Addr} {xs ys : List V} (h : Sq X.K H k a xs) (h' : Sq X.K H k a ys) : xs = ys := by
  cases k with
  | true => exact I.tuple_inj h h'
  | false => exact I.list_inj h h'
/-- the records at ch have turned -/
theorem hok_turned {h' : Heap} {ch : List Addr} (I : Inv X pins σ H s) (hf : ∀ b ∈ ch, H b = none) (k : ∀ b o, b ∉ ch → s.heap.get? b = some o → h'.get? b = some o) : HOk X.prog X.w H h' := fun b u e => by
  have nit : ∀ b u, H b = some u → b ∉ ch := fun b u e z => by rw [hf b z] at e; cases e
  refine (I.hok b u e).stay (fun c v hc q => k c v ?_ q) (fun _ q => q) fun _ _ q => q
  rcases hc with z | z
  · rw [z]; exact nit b u e
  · exact nit c _ z
theorem inv_turned {h' : Heap} {t' : Nat} {ch : List Addr} (I : Inv X pins σ H s) (hf : ∀ b ∈ ch, FpOk X pins H b) (k : ∀ b o, b ∉ ch → s.heap.get? b = some o → h'.get? b = some o) : Inv X pins σ H { s with heap := h', toks := t' } := by
  refine I.step (g' := s.gens) (d' := s.drawn) (ch := ch) (fun b hb => ⟨(hf b hb).2.2.2.1, (hf b hb).2.1, (hf b hb).2.2.2.2.1, (hf b hb).2.2.2.2.2⟩) (fun b o _ _ hc e _ => k b o hc e) (fun b o _ _ hc e _ => ⟨o.slots, k b o hc e⟩) (fun _ _ _ _ n => n)
    (fun b o hc e => ⟨o, k b o hc e⟩) (fun _ _ e => e) (fun _ _ _ e => e) (fun b ps e => ⟨#[], by rw [e]; simp⟩) (fun m hm => ?_) (hok_turned I (fun b hb => (hf b hb).1) k) I.bare
  obtain ⟨o, es, ep, ho, r⟩ := hm
  exact ⟨o, es, ep, k _ o (fun z => (hf _ z).2.1 rfl) ho, r⟩
/-- .. and a new tuple is laid -/
theorem inv_turned_tup {h' : Heap} {t' : Nat} {ch : List Addr} {a : Addr} {ys : List V} {its : List Value} (I : Inv X pins σ H s) (hf : ∀ b ∈ ch, FpOk X pins H b) (k : ∀ b o, b ∉ ch → s.heap.get? b = some o → h'.get? b = some o)
    (ha : s.heap.objs.size ≤ a) (hz : ys.length ≤ sizeLine) (hv : Vals ys its) (ht : IsTup h' a its.toArray) : Inv X pins σ (upd H a (.tup ys)) { s with heap := h', toks := t' } := by
  have fr : H a = none := I.hok.fresh ha
  have na : ∀ b o, s.heap.get? b = some o → b ≠ a := fun b o e => Nat.ne_of_lt (Nat.lt_of_lt_of_le (Heap.lt_size e) ha)
  refine I.step (g' := s.gens) (d' := s.drawn) (ch := ch) (fun b hb => ⟨(hf b hb).2.2.2.1, (hf b hb).2.1, (hf b hb).2.2.2.2.1, (hf b hb).2.2.2.2.2⟩) (fun b o _ _ hc e _ => k b o hc e) (fun b o _ _ hc e _ => ⟨o.slots, k b o hc e⟩) (fun b o _ e n => by rw [upd_ne (na b o e)]; exact n)
    (fun b o hc e => ⟨o, k b o hc e⟩) (fun b u e => by rw [upd_ne (ne_of_none e fr)]; exact e) (fun b o u e => by rw [upd_ne (ne_of_none e fr)]; exact e) (fun b ps e => ⟨#[], by rw [upd_ne (ne_of_none e fr), e]; simp⟩) (fun m hm => ?_)
    (hok_track (hok_turned I (fun b hb => (hf b hb).1) k) fr ⟨hz, its, hv, ht⟩) I.bare
  obtain ⟨o, es, ep, ho, r⟩ := hm
  exact ⟨o, es, ep, k _ o (fun z => (hf _ z).2.1 rfl) ho, r⟩
end
/-- zip of the sequences at a1 and a2: each turn lays a new pair -/
def Itz (K : PySem.W.Frag) (k1 k2 : Bool) (a1 a2 : Addr) : It :=
  ⟨fun i H => ∃ xs ys x y, Sq K H k1 a1 xs ∧ Sq K H k2 a2 ys ∧ xs[i]? = some x ∧ ys[i]? = some y,
   fun i H v H' => ∃ p x y, v = .ref p ∧ H p = none ∧ H' = upd H p (.tup [x, y]) ∧ (∀ xs, Sq K H k1 a1 xs → xs[i]? = some x) ∧ ∀ ys, Sq K H k2 a2 ys → ys[i]? = some y,
   fun i H => ∃ xs ys, Sq K H k1 a1 xs ∧ Sq K H k2 a2 ys ∧ (xs.length ≤ i ∨ ys.length ≤ i)⟩
def ZSt (z TI TO i1 i2 : Addr) (k1 k2 : Bool) (a1 a2 : Addr) (i : Nat) (h : Heap) : Prop :=
  IsZip h z TI TO .none ∧ IsPair h TI (.ref i1) (.ref i2) ∧ (∃ a b, IsPair h TO a b) ∧ ItO h k1 i1 a1 i ∧ ItO h k2 i2 a2 i
theorem turn_zip {P : Program} {w : World} {K : PySem.W.Frag} {es : List Expr} {kt : Nat} {pt : Pos} {z TI TO i1 i2 a1 a2 : Addr} {k1 k2 : Bool} (D : ZipApart z TI TO i1 i2 a1 a2) :
    Turn P w K (.Tuple es kt pt) (Itz K k1 k2 a1 a2) [z, TI, TO, i1, i2] z (ZSt z TI TO i1 i2 k1 k2 a1 a2) where
  mem := by simp
  obj := fun i h st b hb => by
    obtain ⟨q1, q2, ⟨a, c, q3⟩, q4, q5⟩ := st
    simp only [List.mem_cons, List.not_mem_nil, or_false] at hb
    rcases hb with rfl | rfl | rfl | rfl | rfl
    · exact ⟨_, q1, fun v y => by cases y⟩
    · exact ⟨_, q2, fun v y => by cases y⟩
    · exact ⟨_, q3, fun v y => by cases y⟩
    · exact q4.obj
    · exact q5.obj
  keep := fun i h h' st k => by
    obtain ⟨q1, q2, ⟨a, c, q3⟩, q4, q5⟩ := st
    exact ⟨k z (by simp) _ q1, k TI (by simp) _ q2, ⟨a, c, k TO (by simp) _ q3⟩, q4.at fun o e => k i1 (by simp) o e, q5.at fun o e => k i2 (by simp) o e⟩
  item := by
    intro X hP hw hK hc i pins s σ H E I hf st hg
    subst hP hw hK
    obtain ⟨xs, ys, x, y, s1, s2, hx, hy⟩ := hg
    obtain ⟨q1, q2, ⟨a, c, q3⟩, q4, q5⟩ := st
    obtain ⟨its1, v1, o1, z1⟩ := seqO I s1
    obtain ⟨its2, v2, o2, z2⟩ := seqO I s2
    obtain ⟨u1, e1, r1⟩ := v1.get hx
    obtain ⟨u2, e2, r2⟩ := v2.get hy
    have lt : ∀ b ∈ [z, TI, TO, i1, i2], b < s.heap.objs.size := fun b hb => by
      simp only [List.mem_cons, List.not_mem_nil, or_false] at hb
      rcases hb with rfl | rfl | rfl | rfl | rfl
      · exact Heap.lt_size q1
      · exact Heap.lt_size q2
      · exact Heap.lt_size q3
      · obtain ⟨o, e, _⟩ := q4.obj; exact Heap.lt_size e
      · obtain ⟨o, e, _⟩ := q5.obj; exact Heap.lt_size e
    refine nextZ_item D q1 q2 q3 q4 q5 o1 o2 (x := u1) (y := u2) (by simpa using e1) (by simpa using e2) fun h' y1 y2 y3 y4 y5 y6 y7 => ⟨_, rfl, ?_⟩
    refine wpAny_letOwnedTupleGo_zip (s := { s with heap := h' }) y1 fun h2 w1 sb => ?_
    have sb' : Heap.SameBut z h' h2 := sb
    have nz : s.heap.objs.size ≠ z := Nat.ne_of_gt (lt z (by simp))
    have kk : ∀ b o, b ∉ [z, TI, TO, i1, i2] → s.heap.get? b = some o → h2.get? b = some o := fun b o hb e => by
      simp only [List.mem_cons, List.not_mem_nil, or_false, not_or] at hb
      exact (sb'.2 b hb.1).trans (y7 b o hb.1 hb.2.2.1 hb.2.2.2.1 hb.2.2.2.2 e)
    have tp : IsTup h2 s.heap.objs.size [u1, u2].toArray := ⟨_, (sb'.2 _ nz).trans y5, rfl, _, rfl⟩
    refine ⟨.ref s.heap.objs.size, upd H s.heap.objs.size (.tup [x, y]), inv_turned_tup (s := s) (t' := s.toks) I hf kk (Nat.le_refl _) (by show 2 ≤ sizeLine; decide) (.cons r1 (.cons r2 .nil)) tp, rfl,
      ⟨_, x, y, rfl, I.fresh, rfl, fun zs hz => by rw [seq_inj I hz s1]; exact hx, fun zs hz => by rw [seq_inj I hz s2]; exact hy⟩, ?_, fun b hb => ?_⟩
    · exact ⟨w1, (sb'.2 _ D.TIz).trans (y7 _ _ D.TIz D.TITO D.TIi1 D.TIi2 q2), ⟨_, _, (sb'.2 _ D.TOz).trans y2⟩, y3.at fun o e => (sb'.2 _ D.i1z).trans e, y4.at fun o e => (sb'.2 _ D.i2z).trans e⟩
    · rw [upd_ne (Nat.ne_of_lt (lt b hb))]; exact (hf b hb).1
  done := by
    intro X hP hw hK hc i pins s σ H E I hf st hg
    subst hP hw hK
    obtain ⟨xs, ys, s1, s2, hl⟩ := hg
    obtain ⟨q1, q2, ⟨a, c, q3⟩, q4, q5⟩ := st
    obtain ⟨its1, v1, o1, z1⟩ := seqO I s1
    obtain ⟨its2, v2, o2, z2⟩ := seqO I s2
    have l1 := v1.length
    have l2 := v2.length
    refine nextZ_end (I.ok.hd hc) D q1 q2 q3 q4 q5 o1 o2 (hl.imp (fun q => by simp; omega) fun q => by simp; omega) fun h' hk => ⟨rfl, inv_turned (t' := s.toks) I hf fun b o hb e => ?_⟩
    simp only [List.mem_cons, List.not_mem_nil, or_false, not_or] at hb
    exact hk b o hb.1 hb.2.2.1 hb.2.2.2.1 hb.2.2.2.2 e
  self := fun _ _ _ _ _ st h => wpAny_pyIter_zip st.1 h
section
variable {X : Cx}
def iZip (K : PySem.W.Frag) (ta : TA) : TI := fun σ H R => ta σ H fun vs H1 => ∃ k1 k2 a1 a2, vs = [.ref a1, .ref a2] ∧ (∃ xs, Sq K H1 k1 a1 xs) ∧ (∃ ys, Sq K H1 k2 a2 ys) ∧ R (Itz K k1 k2 a1 a2) H1
theorem pi_zip {a b : Expr} {ta : TA} {p pos pt : Pos} {es : List Expr} {kt : Nat} (hg : Gl X "zip") (hm : X.mg "zip" = none) (ha : PA X [a, b] ta) (hs : starEach [a, b] X.env = [(false, eval a X.env), (false, eval b X.env)] := by rfl) (hs2 : starEach [b] X.env = [(false, eval b X.env)] := by rfl) :
    PI X (.Tuple es kt pt) (.Call (.Name "zip" p) [a, b] [] pos) (iZip X.K ta) := by
  intro pins s σ H R I h
  refine Call_ (ld_blt I hg hm boot_zip (PyProof.Rows.callWith_type1 (thn (ha pos pins s σ H _ I h) fun us s1 ⟨vs, H1, I1, r1, q1⟩ => ?_) (by rw [hs, hs2]) (by rw [hs2]; rfl)))
  obtain ⟨k1, k2, a1, a2, rfl, ⟨xs, s1'⟩, ⟨ys, s2'⟩, q⟩ := q1
  cases r1 with
  | cons r rr =>
    cases rr with
    | cons r' rr =>
      cases rr
      cases r
      cases r'
      obtain ⟨its1, v1, o1, z1⟩ := seqO I1 s1'
      obtain ⟨its2, v2, o2, z2⟩ := seqO I1 s2'
      refine callZ_2 o1 o2 fun h' q1 q2 q3 q4 q5 kk => ?_
      refine wpAny_pyIter_zip (s := { s1 with heap := h' }) q1 ?_
      refine ⟨_, _, _, _, H1, rfl, I1.kept (t' := s1.toks) kk, turn_zip (zipApart_new o1.lt o2.lt), ⟨q1, q2, ⟨_, _, q3⟩, q4, q5⟩, fun b hb => ?_, q⟩
      have hle : s1.heap.objs.size ≤ b := by
        simp only [List.mem_cons, List.not_mem_nil, or_false] at hb
        rcases hb with e | e | e | e | e <;> (rw [e]; first | exact Nat.le_add_right _ _ | exact Nat.le_refl _)
      exact I1.fpOk hle (I1.hok.fresh hle)
end
/-! ### a comprehension with two names -/
structure CompScopeP (pre ys : List Str) (scope : Scope) : Prop where
  kind : scope.kind = .function
  cell : ∀ y ∈ scope.names, y.2 ≠ .cell
  nm : ∀ y ∈ scope.names, y.2 = .local → scope.names.lookup y.1 = some .local
  loc : ∀ x ∈ pre, scope.names.lookup x = some .local
  nd : (pre ++ ys).Nodup
theorem none_get {pre : List Str} {τ : L2.St} {j : Nat} {v : V} (e : (List.replicate pre.length none ++ τ)[j]? = some (some v)) : ∃ i, j = pre.length + i ∧ τ[i]? = some (some v) := by
  by_cases hj : j < pre.length
  · rw [List.getElem?_append_left (by rw [List.length_replicate]; exact hj), List.getElem?_replicate, if_pos hj] at e
    cases Option.some.inj e
  · refine ⟨j - pre.length, by omega, ?_⟩
    rw [List.getElem?_append_right (by rw [List.length_replicate]; omega), List.length_replicate] at e
    exact e
theorem comp_invP {X : Cx} {pins : List (Addr × Obj)} {σ : L2.St} {H : Hp} {s : Shared} {pre ys : List Str} {is : List Nat} {scope : Scope} {cl : List (Str × Addr)} {fp : List Addr} {C : Addr} {h1 : Heap} {t1 : Nat} {m1 : Str → Option Value}
    (I : Inv X pins σ H s) (hf : ∀ b ∈ fp, FpOk X pins H b) (hfo : ∀ b ∈ fp, b < s.heap.objs.size) (S : CompScopeP pre ys scope) (hcl : Clo X cl)
    (hfr : (scope.names.all fun p => p.2 != .free || (cl.lookup p.1).isSome) = true) (fr : Frees X scope cl ys is)
    (hC : s.heap.objs.size ≤ C) (old : ∀ b o, s.heap.get? b = some o → h1.get? b = some o) (hn : h1.Ns C m1) :
    Inv (cxComp X (pre ++ ys) scope cl C s H fp) pins (List.replicate pre.length none ++ outs σ is) H { s with heap := h1, toks := t1 } := by
  have stk : ∀ b, b ≠ X.env.locals → b ∉ X.fs → b ∉ frs X.stack := fun b q1 q2 hb => (List.mem_cons.mp (I.stkSub b hb)).elim q1 q2
  have key : ∀ a k, (relabel scope X.env).names.lookup a = some k → (k = .cell ∨ k = .free) → ∃ c, cl.lookup a = some c := fun a k e hk => by
    have hm := PySem.mem_of_lookup e
    obtain ⟨⟨n, k0⟩, hp, ep⟩ := List.mem_map.mp hm
    have hk0 : k0 = .free ∧ n = a := by
      dsimp only at ep
      split at ep
      · rename_i hc
        simp only [Bool.and_eq_true] at hc
        exact ⟨eq_of_beq hc.1.1, (Prod.mk.inj ep).1⟩
      · obtain ⟨e1, e2⟩ := Prod.mk.inj ep
        subst e2
        rcases hk with z | z
        · exact absurd z (S.cell _ hp)
        · exact ⟨z, e1⟩
    obtain ⟨z1, z2⟩ := hk0
    subst z1 z2
    have q := List.all_eq_true.mp hfr _ hp
    have q2 : (cl.lookup n).isSome = true := by simpa using q
    exact Option.isSome_iff_exists.mp q2
  refine ⟨⟨I.ok.mod, S.kind, I.ok.glob, I.ok.blt, hC, fun a b c e1 e2 => I.ok.inj a b c (hcl.get e1) (hcl.get e2), fun a ha => ?_, fun a c e => absurd e Bool.false_ne_true, I.ok.hd, I.ok.frames, .inl rfl,
      fun b hb => ⟨Nat.ne_of_lt (Nat.lt_of_lt_of_le (hfo b hb) hC), fun a c e => (hf b hb).2.2.2.2.1 a c (hcl.get e)⟩, I.bs, Nat.le_trans I.ok.bsz I.sz, fun b o e hb => ?_, fun b hb => stk b (hf b hb).2.1 (hf b hb).2.2.1, I.stack, I.stkFree⟩,
    rfl, I.bare, Un.kept old, ⟨m1, hn, fun j y v e1 e2 e3 => ?_⟩, fun a c e => ?_, I.hok.fresh hC, fun a c e => I.freeC a c (hcl.get e), fun p hp => ?_, I.hok.kept old, ?_⟩
  · rcases ha with e | e
    · exact key a _ e (.inl rfl)
    · exact key a _ e (.inr rfl)
  · rcases (hf b hb).2.2.2.1 with z | z
    · exact I.ok.noex b o e z
    · exact absurd (Nat.lt_of_lt_of_le (Heap.lt_size (I.ok.bs b o e).1) z) (Nat.lt_irrefl _)
  · obtain ⟨k, rfl, e2'⟩ := none_get e2
    have e1' : ys[k]? = some y := by
      have e1'' : (pre ++ ys)[pre.length + k]? = some y := e1
      rw [List.getElem?_append_right (by omega), Nat.add_sub_cancel_left] at e1''
      exact e1''
    obtain ⟨i, c, g1, g2, g3, g4, g5, g6, g7⟩ := fr.get (σ := σ) e1' e2'
    obtain ⟨m0, hn0, hl0⟩ := I.loc
    obtain ⟨u, r, l⟩ := hl0 i y v g1 g2 g3
    rcases l with ⟨k, _⟩ | ⟨_, c', e', z⟩
    · rcases g4 with q | q
      · rw [k] at q; cases q
      · rw [k] at q; cases q
    · rw [g5] at e'
      cases e'
      obtain ⟨o, ho, hd⟩ := z
      exact ⟨u, r, .inr ⟨g7, c, g6, ⟨o, old _ _ ho, hd⟩⟩⟩
  · obtain ⟨v, o, ho, hd⟩ := I.cell a c (hcl.get e)
    exact ⟨v, o, old _ _ ho, hd⟩
  · obtain ⟨e, n, ne, nf, d⟩ := I.pin p hp
    exact ⟨old _ _ e, n, Nat.ne_of_lt (Nat.lt_of_lt_of_le (Heap.lt_size e) hC), stk _ ne nf, d⟩
  · show (List.replicate pre.length none ++ outs σ is).length = (pre ++ ys).length
    unfold outs
    rw [List.length_append, List.length_append, List.length_replicate, List.length_map, fr.len]
def CompGo2 (K : PySem.W.Frag) (J : It) (te : TE) (σ' : L2.St) (H1 : Hp) (Q : VK) : Prop := ∃ W : Nat → Nat → List V → Hp → Prop, (∃ m, W 0 m [] H1) ∧ ∀ i m ys H, W i m ys H →
  (J.stop i H ∧ ys.length ≤ sizeLine ∧ ∀ p, H p = none → Q (.ref p) (upd H p (.lst ys))) ∨
  (J.go i H ∧ ys.length < sizeLine ∧ ∀ v H', J.yld i H v H' → ∃ p a b, v = .ref p ∧ SqT K H' p [a, b] ∧ te (some a :: some b :: σ') H' fun y H2 => ∃ m', m' < m ∧ W (i + 1) m' (ys ++ [y]) H2)
/-- [elt for x, y in iter] -/
def tComp2 (K : PySem.W.Frag) (wi : TI) (is : List Nat) (te : TE) : TE := fun σ H Q => wi σ H fun J H1 => CompGo2 K J te (outs σ is) H1 Q
theorem pe_comp2 {X : Cx} {elt iter : Expr} {x y : Str} {px py pt pos : Pos} {kt : Nat} {scope : Scope} {cl : List (Str × Addr)} {ys : List Str} {is : List Nat} {wi : TI} {te : TE}
    (hc : X.calm = true) (hi : PI X (.Tuple [.Name x px, .Name y py] kt pt) iter wi) (he : ∀ C s H fp, PE (cxComp X (x :: y :: ys) scope cl C s H fp) elt te)
    (hclos : closureFor scope X.env = pure cl) (S : CompScopeP [x, y] ys scope) (hcl : Clo X cl) (hfr : (scope.names.all fun p => p.2 != .free || (cl.lookup p.1).isSome) = true) (fr : Frees X scope cl ys is)
    (hs : ∀ v, foldedSetIterable iter X.env v = pure v := by intro _; rfl) :
    PE X (.ListComp elt [⟨.Tuple [.Name x px, .Name y py] kt pt, iter, [], 0⟩] scope pos) (tComp2 X.K wi is te) := by
  intro pins s σ H Q I h
  rw [eval_ListComp]
  refine wpAny_comprehension_free (use := none) rfl hs hclos S.kind S.nm (thn (hi pins s σ H _ I h) fun xv s1 h1 => thn h1 fun itv s2 h2 => ?_)
  obtain ⟨it, fp, tn, J, H2, rfl, I2, T, st2, f2, W, ⟨m0, w0⟩, turn⟩ := h2
  have fpo : ∀ b ∈ fp, b < s2.heap.objs.size := fun b hb => by
    obtain ⟨o, e, _⟩ := T.obj _ _ st2 b hb
    exact Heap.lt_size e
  refine wpAny_newObj_type (wpAny_newFunctionEnv S.cell (fun y hy => by cases hy) (fun g hns hsb => ?_) S.kind)
  dsimp only at hns hsb ⊢
  generalize hP2 : s2.heap.push { cls := .type "list", dict := none, data := .seq ([] : List Value).toArray } = P2 at hns hsb ⊢
  have hCs : P2.objs.size = s2.heap.objs.size + 1 := by rw [← hP2, Heap.size_push]
  have hDC : s2.heap.objs.size ≠ P2.objs.size := by omega
  have hle : s2.heap.objs.size ≤ P2.objs.size := by omega
  have nc : ∀ b o, s2.heap.get? b = some o → b ≠ P2.objs.size := fun b o e => Nat.ne_of_lt (Nat.lt_of_lt_of_le (Heap.lt_size e) hle)
  have nd : ∀ b o, s2.heap.get? b = some o → b ≠ s2.heap.objs.size := fun b o e => Nat.ne_of_lt (Heap.lt_size e)
  have ndH : ∀ b u, H2 b = some u → b ≠ s2.heap.objs.size := fun b u e => Nat.ne_of_lt (I2.hok.lt e)
  have old : ∀ b o, s2.heap.get? b = some o → g.get? b = some o := fun b o e => hsb.extBut b o (nc b o e) (Heap.get?_push_of_some _ (hP2 ▸ Heap.get?_push_of_some _ e))
  have accD : g.get? s2.heap.objs.size = some (lstO []) := hsb.extBut _ _ hDC (Heap.get?_push_of_some _ (hP2 ▸ Heap.get?_push_size _ rfl))
  have stkD : s2.heap.objs.size ∉ frs X.stack := fun hb => (List.mem_cons.mp (I2.stkSub _ hb)).elim (fun z => absurd z (Nat.ne_of_gt I2.lt)) (I2.nofs (Nat.le_refl _))
  have I3 : Inv (cxComp X (x :: y :: ys) scope cl P2.objs.size s2 H2 fp) pins (none :: none :: outs σ is) H2 { s2 with heap := g, toks := s2.toks + ([] : List (Str × Value)).length } := comp_invP (pre := [x, y]) I2 f2 fpo S hcl hfr fr hle old hns
  have stat : ∀ {H' : Hp} {o : Obj}, (∀ b ∈ fp, H' b = none) → ∀ b ∈ fp, FpOk (cxComp X (x :: y :: ys) scope cl P2.objs.size s2 H2 fp) (pins ++ [(s2.heap.objs.size, o)]) H' b := fun {H' o} hn b hb => by
    refine ⟨hn b hb, Nat.ne_of_lt (Nat.lt_of_lt_of_le (fpo b hb) hle), fun z => (List.mem_cons.mp (I2.stkSub _ z)).elim (f2 b hb).2.1 (f2 b hb).2.2.1, .inl hb, fun a c e => (f2 b hb).2.2.2.2.1 a c (hcl.get e), fun p hp => ?_⟩
    rcases List.mem_append.mp hp with z | z
    · exact (f2 b hb).2.2.2.2.2 p (List.mem_append_left _ z)
    · rcases List.mem_append.mp z with z | z
      · exact (f2 b hb).2.2.2.2.2 p (List.mem_append_right _ z)
      · rw [List.mem_singleton.mp z]
        exact Nat.ne_of_gt (fpo b hb)
  have loop : codeAny (model X.prog X.w) X.A (.compLoop (.ListComp elt [⟨.Tuple [.Name x px, .Name y py] kt pt, iter, [], 0⟩] scope pos) 0 (.ref it) (.ref s2.heap.objs.size) (compEnvC scope cl P2.objs.size X.env))
      (compPost (model X.prog X.w) X.A X.xe none (EP X pins σ Q) (.ref s2.heap.objs.size) P2.objs.size) { s2 with heap := g, toks := s2.toks + ([] : List (Str × Value)).length } := by
    refine comp_turns (fun n s' => ∃ i zs its H', Inv (cxComp X (x :: y :: ys) scope cl P2.objs.size s2 H2 fp) pins (none :: none :: outs σ is) H' s' ∧ tn i s'.heap ∧ (∀ b ∈ fp, H' b = none) ∧ s'.heap.get? s2.heap.objs.size = some (lstO its) ∧ Vals zs its ∧ H' s2.heap.objs.size = none ∧ W i n zs H')
      ?_ m0 ⟨0, [], [], H2, I3, T.keep _ _ _ st2 (fun b _ o e => old b o e), fun b hb => (f2 b hb).1, accD, .nil, I2.hok.fresh (Nat.le_refl _), w0⟩
    rintro n s3 ⟨i, zs, its, H3, J3, st3, fr3, d3, rv3, nd3, w3⟩
    have hzl := rv3.length
    have J3' : Inv (cxComp X (x :: y :: ys) scope cl P2.objs.size s2 H2 fp) (pins ++ [(s2.heap.objs.size, lstO its)]) (none :: none :: outs σ is) H3 s3 := J3.pins_of fun p hp => by
      rcases List.mem_append.mp hp with z | z
      · exact J3.pin p (List.mem_append_right _ z)
      · rw [List.mem_singleton.mp z]
        exact ⟨d3, nd3, hDC, stkD, fun v q => by cases q⟩
    rcases turn i n zs H3 w3 with ⟨stop, hz, q⟩ | ⟨go, hz, step⟩
    · refine wpAny_mono (T.done (cxComp X (x :: y :: ys) scope cl P2.objs.size s2 H2 fp) rfl rfl rfl hc i _ s3 _ H3 noX J3' (stat fr3) st3 stop) (fun r s4 h4 => ?_) fun _ _ z => z.elim
      obtain ⟨hr, I4⟩ := h4
      subst hr
      obtain ⟨m4, hn4, _⟩ := id I4.loc
      refine ⟨m4, hn4, fun h' sb => ?_⟩
      have nC : ∀ b u, H3 b = some u → b ≠ P2.objs.size := fun b u e z => by
        have f4 : H3 P2.objs.size = none := I4.free
        rw [z, f4] at e; cases e
      have d4 : s4.heap.get? s2.heap.objs.size = some (lstO its) := (I4.pin (s2.heap.objs.size, lstO its) (List.mem_append_right _ (List.mem_append_right _ (List.mem_singleton.mpr rfl)))).1
      have d5 : h'.get? s2.heap.objs.size = some (lstO its) := (sb.2 _ hDC).trans d4
      have hok3 : HOk X.prog X.w H3 h' := fun b u e => (I4.hok b u e).stay (fun c v hcc q => (sb.2 c (hcc.elim (fun z => z ▸ nC b u e) (fun z => nC c _ z))).trans q) (fun _ q => q) (fun _ _ q => q)
      have u4 : Un (frs X.stack) fp H2 H3 s2.heap s4.heap := I4.base
      have un : Un (frs X.stack) fp H2 (upd H3 s2.heap.objs.size (.lst zs)) s2.heap h' :=
        ⟨fun b o e n hb hx => (sb.2 b (nc b o e)).trans (u4.keep b o e n hb hx), fun b o e n hb hx => let ⟨sl, q⟩ := u4.slot b o e n hb hx; ⟨sl, (sb.2 b (nc b o e)).trans q⟩,
          fun b o e n hx => by rw [upd_ne (nd b o e)]; exact u4.free b o e n hx, fun b o e hx => let ⟨o', q⟩ := u4.there b o e hx; ⟨o', (sb.2 b (nc b o e)).trans q⟩,
          fun b xs q => by rw [upd_ne (ndH b _ q)]; exact u4.tups b xs q, fun b o u q => by rw [upd_ne (ndH b _ q)]; exact u4.frzs b o u q, fun b ps q => by rw [upd_ne (ndH b _ q)]; exact u4.tbls b ps q⟩
      exact ⟨.ref s2.heap.objs.size, upd H3 s2.heap.objs.size (.lst zs), I2.call' (s' := { s4 with heap := h' }) (ch := fp) I4.os un (hok_track hok3 nd3 ⟨hz, its, its.length, rv3, d5⟩) I4.bare
        (fun b hb => ⟨(f2 b hb).2.2.2.1, (f2 b hb).2.1, (f2 b hb).2.2.2.2.1, (f2 b hb).2.2.2.2.2⟩), rfl, q _ nd3⟩
    · refine wpAny_mono (T.item (cxComp X (x :: y :: ys) scope cl P2.objs.size s2 H2 fp) rfl rfl rfl hc i _ s3 _ H3 noX J3' (stat fr3) st3 go) (fun r s4 h4 => ?_) fun _ _ z => z.elim
      obtain ⟨u, hr, h4⟩ := h4
      subst hr
      refine wpAny_mono h4 (fun _ s5 h5 => ?_) fun _ _ z => z.elim
      obtain ⟨v, H5, I5, r5, y5, st5, fr5⟩ := h5
      obtain ⟨p, va, vb, rfl, hp, step'⟩ := step v H5 y5
      have I5' := I5.pinned (stat fr5) (T.obj _ _ st5)
      have lx : (cxComp X (x :: y :: ys) scope cl P2.objs.size s2 H2 fp).env.scope.names.lookup x = some .local := lookup_relabel_local (S.loc x (by simp))
      have ly : (cxComp X (x :: y :: ys) scope cl P2.objs.size s2 H2 fp).env.scope.names.lookup y = some .local := lookup_relabel_local (S.loc y (by simp))
      have asg := pg_tup (X := cxComp X (x :: y :: ys) scope cl P2.objs.size s2 H2 fp) (pos := pt) (k := kt) (n := 2) hc (pgs_cons (pg_name (pos := px) (i := 0) (x := x) S.nd rfl (.inl lx) (.inr lx)) (pgs_cons (pg_name (pos := py) (i := 1) (x := y) S.nd rfl (.inl ly) (.inr ly)) pgs_nil))
        rfl rfl _ s5 _ H5 (.ref p) u (fun σ6 H6 => σ6 = some va :: some vb :: outs σ is ∧ H6 = H5) I5' r5 ⟨p, [va, vb], rfl, hp, rfl, va, [vb], rfl, vb, [], rfl, rfl, rfl, rfl⟩
      refine wpAny_mono asg (fun _ s6 h6 => ?_) fun _ _ z => z.elim
      obtain ⟨σ6, H6, I6, e6, e6'⟩ := h6
      subst e6 e6'
      refine wpAny_mono (he P2.objs.size s2 H2 fp _ s6 _ H6 _ I6 step') (fun yv s7 h7 => ?_) fun _ _ z => z.elim
      obtain ⟨y', H7, I7, r7, m', hm', w7⟩ := h7
      have pinD := I7.pin (s2.heap.objs.size, lstO its) (List.mem_append_right _ (List.mem_append_left _ (List.mem_append_right _ (List.mem_singleton.mpr rfl))))
      refine append_at (hsz := by show its.toArray.size ≤ sizeLine; rw [List.size_toArray]; omega) pinD.1 fun h8 sb8 hD8 => ?_
      have I7' : Inv (cxComp X (x :: y :: ys) scope cl P2.objs.size s2 H2 fp) pins (none :: none :: outs σ is) H7 s7 := I7.unpinned.unpinned.weak rfl fun j w' e => by
        match j, e with
        | 0, e => cases Option.some.inj e
        | 1, e => cases Option.some.inj e
        | j + 2, e => exact e
      have I8 : Inv (cxComp X (x :: y :: ys) scope cl P2.objs.size s2 H2 fp) pins (none :: none :: outs σ is) H7 { s7 with heap := h8 } := I7'.turned (t' := s7.toks) (it := s2.heap.objs.size) (fun b o hb e => (sb8.2 b hb).trans e) pinD.2.1 hDC (.inr (Nat.le_refl _))
        (fun a c e z => by
          obtain ⟨v', o', ho', _⟩ := I2.cell a c (hcl.get e)
          exact nd c o' ho' z)
        (fun p hp => nd p.1 _ (I2.pin p hp).1)
      refine ⟨m', hm', i + 1, zs ++ [y'], its ++ [yv], H7, I8, T.keep _ _ _ st5 fun b hb o e => ?_, fun b hb => ?_, ?_, rv3.append (.cons r7 .nil), pinD.2.1, w7⟩
      · exact (sb8.2 b (Nat.ne_of_lt (fpo b hb))).trans (I7.pin (b, o) (List.mem_append_right _ (List.mem_append_right _ (mem_pinsAt hb e)))).1
      · obtain ⟨o, e, _⟩ := T.obj _ _ st5 b hb
        exact (I7.pin (b, o) (List.mem_append_right _ (List.mem_append_right _ (mem_pinsAt hb e)))).2.1
      · show h8.get? s2.heap.objs.size = _
        rw [hD8]
        simp [lstO]
  exact codeAny_compStart_list loop (T.self X.A 0 _ _ _ (T.keep _ _ _ st2 (fun b _ o e => old b o e)) loop)
/-- over zip of two sequences that the element leaves as they are -/
theorem comp_zip {K : PySem.W.Frag} {k1 k2 : Bool} {a1 a2 : Addr} {xs ys : List V} {te : TE} {σ' : L2.St} {H : Hp} {Q : VK} (Pv : Nat → List V → Hp → Prop) (h0 : Pv 0 [] H) (hl : ∀ i zs H, Pv i zs H → Sq K H k1 a1 xs ∧ Sq K H k2 a2 ys) (hy : ∀ i zs H, Pv i zs H → zs.length = i)
    (hlen : xs.length = ys.length) (hz : xs.length < sizeLine)
    (hs : ∀ i x y zs H p Q2, xs[i]? = some x → ys[i]? = some y → Pv i zs H → H p = none → (∀ v H3, Pv (i + 1) (zs ++ [v]) H3 → Q2 v H3) → te (some x :: some y :: σ') (upd H p (.tup [x, y])) Q2)
    (hd : ∀ zs H, Pv xs.length zs H → ∀ p, H p = none → Q (.ref p) (upd H p (.lst zs))) : CompGo2 K (Itz K k1 k2 a1 a2) te σ' H Q := by
  refine ⟨fun i m zs H => m = xs.length - i ∧ i ≤ xs.length ∧ Pv i zs H, ⟨xs.length, by simp, Nat.zero_le _, h0⟩, ?_⟩
  rintro i m zs H ⟨rfl, hi, p⟩
  obtain ⟨q1, q2⟩ := hl i zs H p
  have hzl := hy i zs H p
  by_cases hlt : i < xs.length
  · have hlt2 : i < ys.length := by omega
    refine .inr ⟨⟨xs, ys, xs[i], ys[i], q1, q2, by simp [hlt], by simp [hlt2]⟩, by omega, fun v H' yd => ?_⟩
    obtain ⟨t, x, y, rfl, ht, rfl, e1, e2⟩ := yd
    exact ⟨t, x, y, rfl, SqT.of upd_same, hs i x y zs H t _ (e1 xs q1) (e2 ys q2) p ht fun v H3 p3 => ⟨xs.length - (i + 1), by omega, rfl, hlt, p3⟩⟩
  · have e : i = xs.length := by omega
    subst e
    exact .inl ⟨⟨xs, ys, q1, q2, .inl (Nat.le_refl _)⟩, by omega, hd zs H p⟩
end L3
namespace L3
open PySem PySem.Spec PyProof.Rows L2
/-- y = [elt for x in iter], y a plain local on the same row -/
theorem ps_comp {X : Cx} {elt iter : Expr} {x y : Str} {j : Nat} {px py pos spos : Pos} {scope : Scope} {cl : List (Str × Addr)} {ys : List Str} {is : List Nat} {wi : TI} {te : TE}
    (hN : X.N.Nodup) (hj : X.N[j]? = some y) (hyl : Loc X.env.scope y) (hsw : swapsWith (.ListComp elt [⟨.Name x px, iter, [], 0⟩] scope pos) (some (.Name y py)) spos.line X.env = pure true) (hc : X.calm = true) (hi : PI X (.Name x px) iter wi) (he : ∀ C s H fp, PE (cxComp X (x :: ys) scope cl C s H fp) elt te)
    (hclos : closureFor scope X.env = pure cl) (S : CompScope x ys scope) (hcl : Clo X cl) (hfr : (scope.names.all fun p => p.2 != .free || (cl.lookup p.1).isSome) = true) (fr : Frees X scope cl ys is)
    (hs : ∀ v, foldedSetIterable iter X.env v = pure v := by intro _; rfl) (hfn : X.fn y = true ∨ X.env.scope.names.lookup y = some .local := by first | exact .inl rfl | exact .inr rfl | assumption) :
    PS X (.Assign [.Name y py] (.ListComp elt [⟨.Name x px, iter, [], 0⟩] scope pos) spos) (tAsg (tComp wi is te) (gName j)) := by
  intro pins s σ H D I h
  rw [exec_Assign_Name_used _ _ _ _ hsw]
  refine wpAny_bind (wpAny_standAt (wpAny_bind ?_)); show wpAny _ _ (do let _ ← comprehension (.ListComp elt [⟨.Name x px, iter, [], 0⟩] scope pos) scope X.env _ (newList []) false (eval iter X.env) (some (assign (.Name y py) X.env))) _ _ s
  refine wpAny_bind (thn (wpAny_comprehension_free (use := some (assign (.Name y py) X.env)) (Q := fun _ s' => SP X pins D .next s') rfl hs hclos S.kind S.nm (thn (hi pins s σ H _ I h) fun xv s1 h1 => thn h1 fun itv s2 h2 => ?_)) fun _ s' hq => wpAny_pure (wpAny_pure hq))
  obtain ⟨it, fp, tn, J, H2, rfl, I2, T, st2, f2, W, ⟨m0, w0⟩, turn⟩ := h2
  have fpo : ∀ b ∈ fp, b < s2.heap.objs.size := fun b hb => by
    obtain ⟨o, e, _⟩ := T.obj _ _ st2 b hb
    exact Heap.lt_size e
  refine wpAny_newObj_type (wpAny_newFunctionEnv S.cell (fun _ hy => by cases hy) (fun g hns hsb => ?_) S.kind)
  dsimp only at hns hsb ⊢
  generalize hP2 : s2.heap.push { cls := .type "list", dict := none, data := .seq ([] : List Value).toArray } = P2 at hns hsb ⊢
  have hCs : P2.objs.size = s2.heap.objs.size + 1 := by rw [← hP2, Heap.size_push]
  have hDC : s2.heap.objs.size ≠ P2.objs.size := by omega
  have hle : s2.heap.objs.size ≤ P2.objs.size := by omega
  have nc : ∀ b o, s2.heap.get? b = some o → b ≠ P2.objs.size := fun b o e => Nat.ne_of_lt (Nat.lt_of_lt_of_le (Heap.lt_size e) hle)
  have nd : ∀ b o, s2.heap.get? b = some o → b ≠ s2.heap.objs.size := fun b o e => Nat.ne_of_lt (Heap.lt_size e)
  have ndH : ∀ b u, H2 b = some u → b ≠ s2.heap.objs.size := fun b u e => Nat.ne_of_lt (I2.hok.lt e)
  have old : ∀ b o, s2.heap.get? b = some o → g.get? b = some o := fun b o e => hsb.extBut b o (nc b o e) (Heap.get?_push_of_some _ (hP2 ▸ Heap.get?_push_of_some _ e))
  have accD : g.get? s2.heap.objs.size = some (lstO []) := hsb.extBut _ _ hDC (Heap.get?_push_of_some _ (hP2 ▸ Heap.get?_push_size _ rfl))
  have stkD : s2.heap.objs.size ∉ frs X.stack := fun hb => (List.mem_cons.mp (I2.stkSub _ hb)).elim (fun z => absurd z (Nat.ne_of_gt I2.lt)) (I2.nofs (Nat.le_refl _))
  have I3 : Inv (cxComp X (x :: ys) scope cl P2.objs.size s2 H2 fp) pins (none :: outs σ is) H2 { s2 with heap := g, toks := s2.toks + ([] : List (Str × Value)).length } := comp_inv I2 f2 fpo S hcl hfr fr hle old hns
  have stat : ∀ {H' : Hp} {o : Obj}, (∀ b ∈ fp, H' b = none) → ∀ b ∈ fp, FpOk (cxComp X (x :: ys) scope cl P2.objs.size s2 H2 fp) (pins ++ [(s2.heap.objs.size, o)]) H' b := fun {H' o} hn b hb => by
    refine ⟨hn b hb, Nat.ne_of_lt (Nat.lt_of_lt_of_le (fpo b hb) hle), fun z => (List.mem_cons.mp (I2.stkSub _ z)).elim (f2 b hb).2.1 (f2 b hb).2.2.1, .inl hb, fun a c e => (f2 b hb).2.2.2.2.1 a c (hcl.get e), fun p hp => ?_⟩
    rcases List.mem_append.mp hp with z | z
    · exact (f2 b hb).2.2.2.2.2 p (List.mem_append_left _ z)
    · rcases List.mem_append.mp z with z | z
      · exact (f2 b hb).2.2.2.2.2 p (List.mem_append_right _ z)
      · rw [List.mem_singleton.mp z]
        exact Nat.ne_of_gt (fpo b hb)
  have loop : codeAny (model X.prog X.w) X.A (.compLoop (.ListComp elt [⟨.Name x px, iter, [], 0⟩] scope pos) 0 (.ref it) (.ref s2.heap.objs.size) (compEnvC scope cl P2.objs.size X.env))
      (compPost (model X.prog X.w) X.A X.xe (some (assign (.Name y py) X.env)) (fun _ s' => SP X pins D .next s') (.ref s2.heap.objs.size) P2.objs.size) { s2 with heap := g, toks := s2.toks + ([] : List (Str × Value)).length } := by
    refine comp_turns (fun n s' => ∃ i zs its H', Inv (cxComp X (x :: ys) scope cl P2.objs.size s2 H2 fp) pins (none :: outs σ is) H' s' ∧ tn i s'.heap ∧ (∀ b ∈ fp, H' b = none) ∧ s'.heap.get? s2.heap.objs.size = some (lstO its) ∧ Vals zs its ∧ H' s2.heap.objs.size = none ∧ W i n zs H')
      ?_ m0 ⟨0, [], [], H2, I3, T.keep _ _ _ st2 (fun b _ o e => old b o e), fun b hb => (f2 b hb).1, accD, .nil, I2.hok.fresh (Nat.le_refl _), w0⟩
    rintro n s3 ⟨i, zs, its, H3, J3, st3, fr3, d3, rv3, nd3, w3⟩
    have hzl := rv3.length
    have J3' : Inv (cxComp X (x :: ys) scope cl P2.objs.size s2 H2 fp) (pins ++ [(s2.heap.objs.size, lstO its)]) (none :: outs σ is) H3 s3 := J3.pins_of fun p hp => by
      rcases List.mem_append.mp hp with z | z
      · exact J3.pin p (List.mem_append_right _ z)
      · rw [List.mem_singleton.mp z]
        exact ⟨d3, nd3, hDC, stkD, fun v q => by cases q⟩
    rcases turn i n zs H3 w3 with ⟨stop, hz, q⟩ | ⟨go, hz, step⟩
    · refine wpAny_mono (T.done (cxComp X (x :: ys) scope cl P2.objs.size s2 H2 fp) rfl rfl rfl hc i _ s3 _ H3 noX J3' (stat fr3) st3 stop) (fun r s4 h4 => ?_) fun _ _ z => z.elim
      obtain ⟨hr, I4⟩ := h4
      subst hr
      obtain ⟨m4, hn4, _⟩ := id I4.loc
      have f4 : H3 P2.objs.size = none := I4.free
      have d4 : s4.heap.get? s2.heap.objs.size = some (lstO its) := (I4.pin (s2.heap.objs.size, lstO its) (List.mem_append_right _ (List.mem_append_right _ (List.mem_singleton.mpr rfl)))).1
      have u4 : Un (frs X.stack) fp H2 H3 s2.heap s4.heap := I4.base
      have un : Un (frs X.stack) fp H2 (upd H3 s2.heap.objs.size (.lst zs)) s2.heap s4.heap :=
        ⟨u4.keep, u4.slot, fun b o e n hx => by rw [upd_ne (nd b o e)]; exact u4.free b o e n hx, u4.there,
          fun b xs q => by rw [upd_ne (ndH b _ q)]; exact u4.tups b xs q, fun b o u q => by rw [upd_ne (ndH b _ q)]; exact u4.frzs b o u q, fun b ps q => by rw [upd_ne (ndH b _ q)]; exact u4.tbls b ps q⟩
      have IX : Inv X pins σ (upd H3 s2.heap.objs.size (.lst zs)) s4 := I2.call' (s' := s4) (ch := fp) I4.os un (hok_track I4.hok nd3 ⟨hz, its, its.length, rv3, d4⟩) I4.bare
        (fun b hb => ⟨(f2 b hb).2.2.2.1, (f2 b hb).2.1, (f2 b hb).2.2.2.2.1, (f2 b hb).2.2.2.2.2⟩)
      have cL : P2.objs.size ≠ X.env.locals := Nat.ne_of_gt (Nat.lt_of_lt_of_le I2.lt hle)
      have cC : ∀ a c, X.env.cells.lookup a = some c → c ≠ P2.objs.size := fun a c e => by
        obtain ⟨v', o', ho', _⟩ := I2.cell a c e
        exact nc c o' ho'
      show wpAny _ _ (assign (.Name y py) X.env (.ref s2.heap.objs.size)) _ _ s4
      refine wpAny_assign_Name (store_ok2 IX hN hj hyl (v := .ref s2.heap.objs.size) rfl (fun s5 I5 h5 => ?_) hfn)
      obtain ⟨a5, sb5, ha5⟩ := h5
      have na : P2.objs.size ≠ a5 := ha5.elim (fun e => by rw [e]; exact cL) fun e => Ne.symm (cC _ _ e)
      refine ⟨m4, hn4.sameBut sb5 na, fun h' sb => ⟨_, _, I5.turned (t' := s5.toks) (it := P2.objs.size) (fun b o hb e => (sb.2 b hb).trans e) ?_ cL (.inr (Nat.le_trans I2.sz hle)) cC (fun p hp => nc p.1 _ (I2.pin p hp).1), q _ nd3⟩⟩
      rw [upd_ne (Ne.symm hDC)]; exact f4
    · refine wpAny_mono (T.item (cxComp X (x :: ys) scope cl P2.objs.size s2 H2 fp) rfl rfl rfl hc i _ s3 _ H3 noX J3' (stat fr3) st3 go) (fun r s4 h4 => ?_) fun _ _ z => z.elim
      obtain ⟨u, hr, h4⟩ := h4
      subst hr
      refine wpAny_mono h4 (fun _ s5 h5 => ?_) fun _ _ z => z.elim
      obtain ⟨v, H5, I5, r5, y5, st5, fr5⟩ := h5
      have I5' := I5.pinned (stat fr5) (T.obj _ _ st5)
      have lx : (cxComp X (x :: ys) scope cl P2.objs.size s2 H2 fp).env.scope.names.lookup x = some .local := lookup_relabel_local S.loc
      have asg := pg_name (X := cxComp X (x :: ys) scope cl P2.objs.size s2 H2 fp) (i := 0) (x := x) (pos := px) S.nd rfl (.inl lx) (.inr lx) _ s5 _ H5 v u (fun σ6 H6 => σ6 = (none :: outs σ is).set 0 (some v) ∧ H6 = H5) I5' r5 ⟨rfl, rfl⟩
      refine wpAny_mono asg (fun _ s6 h6 => ?_) fun _ _ z => z.elim
      obtain ⟨σ6, H6, I6, e6, e6'⟩ := h6
      subst e6 e6'
      refine wpAny_mono (he P2.objs.size s2 H2 fp _ s6 _ H6 _ I6 (step v H6 y5)) (fun yv s7 h7 => ?_) fun _ _ z => z.elim
      obtain ⟨y', H7, I7, r7, m', hm', w7⟩ := h7
      have pinD := I7.pin (s2.heap.objs.size, lstO its) (List.mem_append_right _ (List.mem_append_left _ (List.mem_append_right _ (List.mem_singleton.mpr rfl))))
      refine append_at (hsz := by show its.toArray.size ≤ sizeLine; rw [List.size_toArray]; omega) pinD.1 fun h8 sb8 hD8 => ?_
      have I7' : Inv (cxComp X (x :: ys) scope cl P2.objs.size s2 H2 fp) pins (none :: outs σ is) H7 s7 := I7.unpinned.unpinned.weak rfl fun j w' e => by
        cases j with
        | zero =>
          have z : (none : Option V) = some w' := Option.some.inj e
          cases z
        | succ j => exact e
      have I8 : Inv (cxComp X (x :: ys) scope cl P2.objs.size s2 H2 fp) pins (none :: outs σ is) H7 { s7 with heap := h8 } := I7'.turned (t' := s7.toks) (it := s2.heap.objs.size) (fun b o hb e => (sb8.2 b hb).trans e) pinD.2.1 hDC (.inr (Nat.le_refl _))
        (fun a c e z => by
          obtain ⟨v', o', ho', _⟩ := I2.cell a c (hcl.get e)
          exact nd c o' ho' z)
        (fun p hp => nd p.1 _ (I2.pin p hp).1)
      refine ⟨m', hm', i + 1, zs ++ [y'], its ++ [yv], H7, I8, T.keep _ _ _ st5 fun b hb o e => ?_, fun b hb => ?_, ?_, rv3.append (.cons r7 .nil), pinD.2.1, w7⟩
      · exact (sb8.2 b (Nat.ne_of_lt (fpo b hb))).trans (I7.pin (b, o) (List.mem_append_right _ (List.mem_append_right _ (mem_pinsAt hb e)))).1
      · obtain ⟨o, e, _⟩ := T.obj _ _ st5 b hb
        exact (I7.pin (b, o) (List.mem_append_right _ (List.mem_append_right _ (mem_pinsAt hb e)))).2.1
      · show h8.get? s2.heap.objs.size = _
        rw [hD8]
        simp [lstO]
  exact codeAny_compStart_list loop (T.self X.A 0 _ _ _ (T.keep _ _ _ st2 (fun b _ o e => old b o e)) loop)

end L3
/-! ### a def with a default -/
namespace L3
open PySem PySem.Spec PyProof.Rows L2
structure FunD (K : PySem.W.Frag) (x qual : Str) (st : Stmt) (f : Addr) (fd : FuncData) (dV : Value) : Prop where
  ex : ∃ (oc : Value) (od : Option Addr) (kV doc pm : Value) (an : Option Addr) (cdv ct : Value) (osl : Array (Option Value)),
    fd = PySem.W.fnOf x qual (defArgs st) (defBody st) (defScope st) dV kV doc pm an cdv ct ∧ K.lookup f = some ⟨oc, od, .func fd, osl⟩ ∧ PySem.W.codeIn K cdv qual = true
  kp : PySem.W.keepIn K (.ref f) = true
section
variable {P : Program} {w : World} {K : PySem.W.Frag} {mg : Str → Option Value} {base : Heap}
theorem FunD.ok {x qual : Str} {st : Stmt} {f : Addr} {fd : FuncData} {dV : Value} {N ps : List Str} {k : Nat} {sp : Sp} (F : FunD K x qual st f fd dV) (S : FnScope N ps (defScope st)) (len : ∀ vs H Q E, sp vs H Q E → vs.length = ps.length)
    (hb : ∀ (cdv : Value) (A : Around) (outer : List Env) (s : Shared) (H : Hp) (vs : List V) (Q : VK) (E : XK), Room k (A.deeper (envOfC qual (defScope st) s.heap.objs.size f cdv)) → sp vs H Q E →
      ∃ t, PSs (cxOf CX0 P w K mg base N qual (defScope st) f cdv A outer s H E).nox (defBody st) t ∧ t { nx := fun _ H' => Q .non H', rt := Q } (start N vs) H) : FnOk P w K mg base CX0 (k + 1) f fd ps sp := by
  obtain ⟨oc, od, kV, doc, pm, an, cdv, ct, osl, rfl, lk, hcd⟩ := F.ex
  exact fn_of lk hcd S len fun A outer s H vs Q E hr hsp => let ⟨t, h, q⟩ := hb cdv A outer s H vs Q E hr hsp; ⟨t, h.nox, q⟩
theorem FunD.binds {x qual : Str} {st : Stmt} {f : Addr} {fd : FuncData} {T : Addr} {o : Obj} {n : Nat} {its : Array Value} {ps : List Str} {ds : List Value} (F : FunD K x qual st f fd (.ref T)) (ho : K.lookup T = some o) (hs : o.data = .seq its n)
    (h : ∀ (kV doc pm : Value) (an : Option Addr) (cdv ct : Value) (us : List Value), (us ++ ds).length = ps.length → ∃ k : Option (Array Value) → Sem (List (Str × Value)), bindArgs (PySem.W.fnOf x qual (defArgs st) (defBody st) (defScope st) (.ref T) kV doc pm an cdv ct) ⟨us, []⟩ = seqItems? (.ref T) >>= k ∧ k (some its) = pure (ps.zip (us ++ ds))) : Binds K fd ps ds := by
  obtain ⟨oc, od, kV, doc, pm, an, cdv, ct, osl, rfl, lk, hcd⟩ := F.ex
  intro s us KX hl
  obtain ⟨k, h1, h2⟩ := h kV doc pm an cdv ct us hl
  exact PySem.W.binds_K KX rfl ho hs h1 h2
theorem funD_mk {x qual : Str} {st : Stmt} {f : Addr} {oc dV : Value} {od an : Option Addr} {osl : Array (Option Value)} {kV doc pm cdv ct : Value} (l : K.lookup f = some ⟨oc, od, .func (PySem.W.fnOf x qual (defArgs st) (defBody st) (defScope st) dV kV doc pm an cdv ct), osl⟩)
    (c : PySem.W.codeIn K cdv qual = true) (k : PySem.W.keepIn K (.ref f) = true) : FunD K x qual st f (PySem.W.fnOf x qual (defArgs st) (defBody st) (defScope st) dV kV doc pm an cdv ct) dV := ⟨⟨oc, od, kV, doc, pm, an, cdv, ct, osl, rfl, l, c⟩, k⟩
end
end L3
/-! ### list(range(a, b)) -/
namespace L3
open PySem PySem.Spec PyProof.Rows L2
section
variable {X : Cx}
theorem call_rng2 : CallR X (.type "range") (fun xs H Q => ∃ i j, xs = [.int i, .int j] ∧ ∀ p, H p = none → Q (.ref p) (upd H p (.rng i j))) := by
  intro pins s σ H xs us Q I r h
  obtain ⟨i, j, rfl, q⟩ := h
  obtain ⟨u, w', rfl, ⟨t, rfl⟩, ⟨t', rfl⟩⟩ := vals2 r
  refine call_range_2 ?_
  exact ⟨.ref s.heap.objs.size, upd H s.heap.objs.size (.rng i j), I.laid (t' := s.toks + 1) (fun _ _ e => Heap.get?_push_of_some _ e) (Nat.le_refl _) ⟨_, _, _, Heap.get?_push_size _ rfl⟩, rfl, q _ I.fresh⟩
theorem vals_range {lo : Int} {acc : Array Value} {n : Nat} (h : ItemsOf (fun (i : Nat) (v : Value) => ∃ t, v = Value.int (lo + (i : Int) * 1) t) acc n) : Vals ((List.range n).map fun (k : Nat) => V.int (lo + (k : Int))) acc.toList := by
  have key : ∀ (l : List Value) (m : Nat), l.length + m = n → (∀ j v, l[j]? = some v → ∃ t, v = Value.int (lo + ((m + j : Nat) : Int)) t) → Vals ((List.range' m l.length).map fun (k : Nat) => V.int (lo + (k : Int))) l := by
    intro l
    induction l with
    | nil => intro m _ _; exact .nil
    | cons v l ih =>
      intro m hm hv
      obtain ⟨t, e⟩ := hv 0 v rfl
      rw [List.length_cons, List.range'_succ, List.map_cons]
      refine .cons ⟨t, by rw [e]; rfl⟩ (ih (m + 1) (by rw [List.length_cons] at hm; omega) fun j v' hj => ?_)
      obtain ⟨t', e'⟩ := hv (j + 1) v' hj
      exact ⟨t', by rw [e', show m + (j + 1) = m + 1 + j by omega]⟩
  have hl : acc.toList.length = n := by rw [Array.length_toList]; exact h.1
  have := key acc.toList 0 (by omega) fun j v hj => by
    obtain ⟨t, e⟩ := h.2 j v (by simpa using hj)
    exact ⟨t, by rw [e, Int.mul_one, Nat.zero_add]⟩
  rw [hl] at this
  rw [List.range_eq_range']
  exact this
theorem call_listR (hc : X.calm = true) : CallR X (.type "list") (fun xs H Q => ∃ p i j, xs = [.ref p] ∧ H p = some (.rng i j) ∧ (-(2 ^ 62) ≤ i ∧ i < 2 ^ 62 ∧ -(2 ^ 62) ≤ j ∧ j < 2 ^ 62) ∧ (j - i).toNat ≤ sizeLine ∧ ∀ l, H l = none → Q (.ref l) (upd H l (.lst ((List.range (j - i).toNat).map fun (k : Nat) => V.int (i + (k : Int)))))) := by
  intro pins s σ H xs us Q I r h
  obtain ⟨p, i, j, rfl, hp, ⟨b1, b2, b3, b4⟩, hz, q⟩ := h
  obtain ⟨u, rfl, ru⟩ := vals1 r
  cases ru
  obtain ⟨t, u, v, e⟩ := I.hok p _ hp
  refine call_list_range (I.ok.hd hc) e (small_one b1 b2 b3 b4) (n := (j - i).toNat) (by rw [rangeSize_one]; split <;> omega) (Nat.le_trans hz (by decide)) fun h' tk acc' c' hk hS' hacc => ?_
  have hv := vals_range hacc
  refine ⟨.ref s.heap.objs.size, upd H s.heap.objs.size (.lst ((List.range (j - i).toNat).map fun (k : Nat) => V.int (i + (k : Int)))), I.laid (t' := tk) hk (Nat.le_refl _) ⟨?_, acc'.toList, c', hv, by rw [hS', Array.toArray_toList]⟩, rfl, q _ I.fresh⟩
  rw [List.length_map, List.length_range]
  exact hz
end
end L3
/-! ### enumerate of a list -/
namespace L3
open PySem PySem.Spec PyProof.Rows L2
/-- enumerate of the list at a: each turn lays a new pair -/
def Ite (K : PySem.W.Frag) (a : Addr) : It :=
  ⟨fun i H => ∃ xs x, SqL K H a xs ∧ xs[i]? = some x,
   fun i H v H' => ∃ p x, v = .ref p ∧ H p = none ∧ H' = upd H p (.tup [.int (i : Int), x]) ∧ ∀ xs, SqL K H a xs → xs[i]? = some x,
   fun i H => ∃ xs, SqL K H a xs ∧ xs.length ≤ i⟩
theorem turn_enum {P : Program} {w : World} {K : PySem.W.Frag} {es : List Expr} {kt : Nat} {pt : Pos} {e it a : Addr} (hne : e ≠ it) : Turn P w K (.Tuple es kt pt) (Ite K a) [e, it] e (fun i h => (∃ old, IsEnum h e it (i : Int) old) ∧ h.IsListIter it a i) where
  mem := by simp
  obj := fun i h st b hb => by
    obtain ⟨⟨old, q1⟩, q2⟩ := st
    simp only [List.mem_cons, List.not_mem_nil, or_false] at hb
    rcases hb with rfl | rfl
    · exact ⟨_, q1, fun v y => by cases y⟩
    · obtain ⟨o, e', _, d⟩ := q2
      exact ⟨o, e', fun v y => by rw [d] at y; cases y⟩
  keep := fun i h h' st k => by
    obtain ⟨⟨old, q1⟩, q2⟩ := st
    exact ⟨⟨old, k e (by simp) _ q1⟩, q2.at fun o z => k it (by simp) o z⟩
  item := by
    intro X hP hw hK hc i pins s σ H E I hf st hg
    subst hP hw hK
    obtain ⟨xs, x, s1, hx⟩ := hg
    obtain ⟨⟨old, q1⟩, q2⟩ := st
    obtain ⟨its, v1, o1, z1⟩ := I.list s1
    obtain ⟨u1, e1, r1⟩ := v1.get hx
    have lt : ∀ b ∈ [e, it], b < s.heap.objs.size := fun b hb => by
      simp only [List.mem_cons, List.not_mem_nil, or_false] at hb
      rcases hb with rfl | rfl
      · exact Heap.lt_size q1
      · obtain ⟨o, e', _⟩ := q2; exact Heap.lt_size e'
    refine wpAny_pyNext_enum_item q1 q2 o1.isList (x := u1) (by simpa using e1) hne fun h' y1 y2 y3 y4 y5 => ⟨_, rfl, ?_⟩
    refine wpAny_letOwnedTupleGo_enum (s := { s with heap := h', toks := s.toks + 1 }) y1 fun h2 w1 sb => ?_
    have sb' : Heap.SameBut e h' h2 := sb
    have nz : s.heap.objs.size ≠ e := Nat.ne_of_gt (lt e (by simp))
    have kk : ∀ b o, b ∉ [e, it] → s.heap.get? b = some o → h2.get? b = some o := fun b o hb z => by
      simp only [List.mem_cons, List.not_mem_nil, or_false, not_or] at hb
      exact (sb'.2 b hb.1).trans (y5 b o hb.1 hb.2 z)
    have tp : IsTup h2 s.heap.objs.size [.int (i : Int) s.toks, u1].toArray := ⟨_, (sb'.2 _ nz).trans y3, rfl, _, rfl⟩
    refine ⟨.ref s.heap.objs.size, upd H s.heap.objs.size (.tup [.int (i : Int), x]), inv_turned_tup (s := s) (t' := s.toks + 1) I hf kk (Nat.le_refl _) (by show 2 ≤ sizeLine; decide) (.cons ⟨_, rfl⟩ (.cons r1 .nil)) tp, rfl,
      ⟨_, x, rfl, I.fresh, rfl, fun zs hz => by rw [I.list_inj hz s1]; exact hx⟩, ?_, fun b hb => ?_⟩
    · exact ⟨⟨_, w1⟩, y2.at fun o z => (sb'.2 _ (Ne.symm hne)).trans z⟩
    · rw [upd_ne (Nat.ne_of_lt (lt b hb))]; exact (hf b hb).1
  done := by
    intro X hP hw hK hc i pins s σ H E I hf st hg
    subst hP hw hK
    obtain ⟨xs, s1, hl⟩ := hg
    obtain ⟨⟨old, q1⟩, q2⟩ := st
    obtain ⟨its, v1, o1, z1⟩ := I.list s1
    have l1 := v1.length
    refine wpAny_pyNext_enum_end (I.ok.hd hc) q1 q2 o1.isList (by simp; omega) fun h' eb => ⟨rfl, inv_turned (t' := s.toks) I hf fun b o hb z => eb b o (fun y => hb (by simp [y])) z⟩
  self := fun _ _ _ _ _ st h => by
    obtain ⟨⟨old, q1⟩, _⟩ := st
    exact wpAny_pyIter_enum q1 h
section
variable {X : Cx}
def iEnum (K : PySem.W.Frag) (ta : TA) : TI := fun σ H R => ta σ H fun vs H1 => ∃ a, vs = [.ref a] ∧ (∃ xs, SqL K H1 a xs) ∧ R (Ite K a) H1
theorem pi_enum {a : Expr} {ta : TA} {p pos pt : Pos} {es : List Expr} {kt : Nat} (hg : Gl X "enumerate") (hm : X.mg "enumerate" = none) (ha : PA X [a] ta) (hs : starEach [a] X.env = [(false, eval a X.env)] := by rfl) :
    PI X (.Tuple es kt pt) (.Call (.Name "enumerate" p) [a] [] pos) (iEnum X.K ta) := by
  intro pins s σ H R I h
  refine Call_ (ld_blt I hg hm boot_enumerate (PyProof.Rows.callWith_type1 (thn (ha pos pins s σ H _ I h) fun us s1 ⟨vs, H1, I1, r1, q1⟩ => ?_) hs rfl))
  obtain ⟨a, rfl, ⟨xs, s1'⟩, q⟩ := q1
  cases r1 with
  | cons r rr =>
    cases rr
    cases r
    obtain ⟨its, v1, o1, z1⟩ := I1.list s1'
    refine call_enumerate_list o1.isList fun h' q1 q2 _ kk => ?_
    refine wpAny_pyIter_enum (s := { s1 with heap := h' }) q1 ?_
    refine ⟨_, _, _, _, H1, rfl, I1.kept (t' := s1.toks) kk, turn_enum (Nat.succ_ne_self _), ⟨⟨_, q1⟩, q2⟩, fun b hb => ?_, q⟩
    have hle : s1.heap.objs.size ≤ b := by
      simp only [List.mem_cons, List.not_mem_nil, or_false] at hb
      rcases hb with e | e <;> (rw [e]; first | exact Nat.le_add_right _ _ | exact Nat.le_refl _)
    exact I1.fpOk hle (I1.hok.fresh hle)
end
/-- for i, x in enumerate(xs), the list staying as it is -/
theorem for_enum {K : PySem.W.Frag} {a : Addr} {xs : List V} {g : TG} {tb : TS} {D : Ends} {σ : L2.St} {H : Hp} (Pv : Nat → L2.St → Hp → Prop) (h0 : Pv 0 σ H) (hl : ∀ i σ H, i ≤ xs.length → Pv i σ H → SqL K H a xs)
    (hs : ∀ i x σ H p, xs[i]? = some x → Pv i σ H → H p = none → g (.ref p) σ (upd H p (.tup [.int (i : Int), x])) fun σ2 H2 => tb { D with nx := Pv (i + 1), ct := Pv (i + 1), bk := D.nx } σ2 H2) (hd : ∀ σ H, Pv xs.length σ H → D.nx σ H) :
    ∃ W : Nat → Nat → L2.St → Hp → Prop, (∃ m, W 0 m σ H) ∧ ∀ i m σ H, W i m σ H →
      ((Ite K a).stop i H ∧ D.nx σ H) ∨ ((Ite K a).go i H ∧ ∃ N : L2.St → Hp → Prop, (∀ σ' H', N σ' H' → ∃ m', m' < m ∧ W (i + 1) m' σ' H') ∧ ∀ x H', (Ite K a).yld i H x H' → g x σ H' fun σ2 H2 => tb { D with nx := N, ct := N, bk := D.nx } σ2 H2) := by
  refine ⟨fun i m σ H => m = xs.length - i ∧ i ≤ xs.length ∧ Pv i σ H, ⟨xs.length, by simp, Nat.zero_le _, h0⟩, ?_⟩
  rintro i m σ H ⟨rfl, hi, p⟩
  have q := hl i σ H hi p
  by_cases hlt : i < xs.length
  · refine .inr ⟨⟨xs, xs[i], q, by simp [hlt]⟩, Pv (i + 1), fun σ' H' p' => ⟨xs.length - (i + 1), by omega, rfl, hlt, p'⟩, fun x H' y => ?_⟩
    obtain ⟨t, z, rfl, ht, rfl, e1⟩ := y
    exact hs i z σ H t (e1 xs q) p ht
  · have e : i = xs.length := by omega
    subst e
    exact .inl ⟨⟨xs, q, Nat.le_refl _⟩, hd σ H p⟩
end L3
namespace L3
open PySem PySem.Spec PyProof.Rows L2
/-! ### a comprehension with two names and a test -/
section
variable {prog : Program} {w : World} {A : Around} {R : Result → Shared → Prop} {s : Shared}
theorem comp_turnsF {elt tg iter cnd : Expr} {scope : Scope} {pos : Pos} {it acc : Value} {env : Env} (J : Nat → Shared → Prop)
    (turn : ∀ n s, J n s → wpAny (model prog w) A (pyNext it) (fun r s₁ => match r with
      | none => R (.ok .next) s₁
      | some v => wpAny (model prog w) A (letOwnedTupleGo tg it v) (fun _ s₂ => wpAny (model prog w) A (assign tg env v) (fun _ s₃ => wpAny (model prog w) A (isTrue cnd env (eval cnd env)) (fun ok s₄ => if ok = true then
          wpAny (model prog w) A (eval elt env) (fun y s₅ => wpAny (model prog w) A (call (.builtin "list.append") [acc, y]) (fun _ s₆ => ∃ m, m < n ∧ J m s₆) noX s₅) noX s₄ else ∃ m, m < n ∧ J m s₄) noX s₃) noX s₂) noX s₁) noX s)
    (n : Nat) (h : J n s) : codeAny (model prog w) A (.compLoop (.ListComp elt [⟨tg, iter, [cnd], 0⟩] scope pos) 0 it acc env) R s := by
  refine codeAny_loop rfl J (fun n s hJ => ?_) n h
  show wpAny _ A ((compTurn (.ListComp elt [⟨tg, iter, [cnd], 0⟩] scope pos) 0 it acc env).onRaise (fun x => do noteFrame x env; theTreesLotGoes x)) _ _ s
  refine wpAny_noted ?_
  rw [compTurn_list]
  refine wpAny_bind (wpAny_standAt (wpAny_bind (wpAny_mono (turn n s hJ) (fun r s₁ h₁ => ?_) fun _ _ z => z.elim)))
  cases r with
  | none => exact wpAny_pure h₁
  | some v =>
    refine wpAny_bind (wpAny_mono h₁ (fun _ s₂ h₂ => ?_) fun _ _ z => z.elim)
    refine wpAny_bind (wpAny_mono h₂ (fun _ s₃ h₃ => ?_) fun _ _ z => z.elim)
    refine wpAny_bind (wpAny_tests_one (wpAny_mono h₃ (fun ok s₄ h₄ => ?_) fun _ _ z => z.elim))
    cases ok with
    | true => exact wpAny_bind (wpAny_bind (wpAny_mono h₄ (fun y s₅ h₅ => wpAny_bind (wpAny_mono h₅ (fun _ s₆ h₆ => wpAny_pure (wpAny_pure ⟨rfl, h₆⟩)) fun _ _ z => z.elim)) fun _ _ z => z.elim))
    | false => exact wpAny_bind (wpAny_pure (wpAny_pure ⟨rfl, h₄⟩))
end
def CompGo2F (K : PySem.W.Frag) (J : It) (tc : TT) (te : TE) (σ' : L2.St) (H1 : Hp) (Q : VK) : Prop := ∃ W : Nat → Nat → List V → Hp → Prop, (∃ m, W 0 m [] H1) ∧ ∀ i m ys H, W i m ys H →
  (J.stop i H ∧ ys.length ≤ sizeLine ∧ ∀ p, H p = none → Q (.ref p) (upd H p (.lst ys))) ∨
  (J.go i H ∧ ys.length < sizeLine ∧ ∀ v H', J.yld i H v H' → ∃ p a b, v = .ref p ∧ SqT K H' p [a, b] ∧ tc (some a :: some b :: σ') H' fun ok H2 => if ok = true then te (some a :: some b :: σ') H2 fun y H3 => ∃ m', m' < m ∧ W (i + 1) m' (ys ++ [y]) H3 else ∃ m', m' < m ∧ W (i + 1) m' ys H2)
/-- [elt for x, y in iter if cnd] -/
def tComp2F (K : PySem.W.Frag) (wi : TI) (is : List Nat) (tc : TT) (te : TE) : TE := fun σ H Q => wi σ H fun J H1 => CompGo2F K J tc te (outs σ is) H1 Q
theorem pe_comp2F {X : Cx} {elt iter cnd : Expr} {x y : Str} {px py pt pos : Pos} {kt : Nat} {scope : Scope} {cl : List (Str × Addr)} {ys : List Str} {is : List Nat} {wi : TI} {te : TE} {tc : TT}
    (hc : X.calm = true) (hi : PI X (.Tuple [.Name x px, .Name y py] kt pt) iter wi) (he : ∀ C s H fp, PE (cxComp X (x :: y :: ys) scope cl C s H fp) elt te) (hcd : ∀ C s H fp, PT (cxComp X (x :: y :: ys) scope cl C s H fp) cnd tc)
    (hclos : closureFor scope X.env = pure cl) (S : CompScopeP [x, y] ys scope) (hcl : Clo X cl) (hfr : (scope.names.all fun p => p.2 != .free || (cl.lookup p.1).isSome) = true) (fr : Frees X scope cl ys is)
    (hs : ∀ v, foldedSetIterable iter X.env v = pure v := by intro _; rfl) :
    PE X (.ListComp elt [⟨.Tuple [.Name x px, .Name y py] kt pt, iter, [cnd], 0⟩] scope pos) (tComp2F X.K wi is tc te) := by
  intro pins s σ H Q I h
  rw [eval_ListComp]
  refine wpAny_comprehension_free (use := none) rfl hs hclos S.kind S.nm (thn (hi pins s σ H _ I h) fun xv s1 h1 => thn h1 fun itv s2 h2 => ?_)
  obtain ⟨it, fp, tn, J, H2, rfl, I2, T, st2, f2, W, ⟨m0, w0⟩, turn⟩ := h2
  have fpo : ∀ b ∈ fp, b < s2.heap.objs.size := fun b hb => by
    obtain ⟨o, e, _⟩ := T.obj _ _ st2 b hb
    exact Heap.lt_size e
  refine wpAny_newObj_type (wpAny_newFunctionEnv S.cell (fun y hy => by cases hy) (fun g hns hsb => ?_) S.kind)
  dsimp only at hns hsb ⊢
  generalize hP2 : s2.heap.push { cls := .type "list", dict := none, data := .seq ([] : List Value).toArray } = P2 at hns hsb ⊢
  have hCs : P2.objs.size = s2.heap.objs.size + 1 := by rw [← hP2, Heap.size_push]
  have hDC : s2.heap.objs.size ≠ P2.objs.size := by omega
  have hle : s2.heap.objs.size ≤ P2.objs.size := by omega
  have nc : ∀ b o, s2.heap.get? b = some o → b ≠ P2.objs.size := fun b o e => Nat.ne_of_lt (Nat.lt_of_lt_of_le (Heap.lt_size e) hle)
  have nd : ∀ b o, s2.heap.get? b = some o → b ≠ s2.heap.objs.size := fun b o e => Nat.ne_of_lt (Heap.lt_size e)
  have ndH : ∀ b u, H2 b = some u → b ≠ s2.heap.objs.size := fun b u e => Nat.ne_of_lt (I2.hok.lt e)
  have old : ∀ b o, s2.heap.get? b = some o → g.get? b = some o := fun b o e => hsb.extBut b o (nc b o e) (Heap.get?_push_of_some _ (hP2 ▸ Heap.get?_push_of_some _ e))
  have accD : g.get? s2.heap.objs.size = some (lstO []) := hsb.extBut _ _ hDC (Heap.get?_push_of_some _ (hP2 ▸ Heap.get?_push_size _ rfl))
  have stkD : s2.heap.objs.size ∉ frs X.stack := fun hb => (List.mem_cons.mp (I2.stkSub _ hb)).elim (fun z => absurd z (Nat.ne_of_gt I2.lt)) (I2.nofs (Nat.le_refl _))
  have I3 : Inv (cxComp X (x :: y :: ys) scope cl P2.objs.size s2 H2 fp) pins (none :: none :: outs σ is) H2 { s2 with heap := g, toks := s2.toks + ([] : List (Str × Value)).length } := comp_invP (pre := [x, y]) I2 f2 fpo S hcl hfr fr hle old hns
  have stat : ∀ {H' : Hp} {o : Obj}, (∀ b ∈ fp, H' b = none) → ∀ b ∈ fp, FpOk (cxComp X (x :: y :: ys) scope cl P2.objs.size s2 H2 fp) (pins ++ [(s2.heap.objs.size, o)]) H' b := fun {H' o} hn b hb => by
    refine ⟨hn b hb, Nat.ne_of_lt (Nat.lt_of_lt_of_le (fpo b hb) hle), fun z => (List.mem_cons.mp (I2.stkSub _ z)).elim (f2 b hb).2.1 (f2 b hb).2.2.1, .inl hb, fun a c e => (f2 b hb).2.2.2.2.1 a c (hcl.get e), fun p hp => ?_⟩
    rcases List.mem_append.mp hp with z | z
    · exact (f2 b hb).2.2.2.2.2 p (List.mem_append_left _ z)
    · rcases List.mem_append.mp z with z | z
      · exact (f2 b hb).2.2.2.2.2 p (List.mem_append_right _ z)
      · rw [List.mem_singleton.mp z]
        exact Nat.ne_of_gt (fpo b hb)
  have loop : codeAny (model X.prog X.w) X.A (.compLoop (.ListComp elt [⟨.Tuple [.Name x px, .Name y py] kt pt, iter, [cnd], 0⟩] scope pos) 0 (.ref it) (.ref s2.heap.objs.size) (compEnvC scope cl P2.objs.size X.env))
      (compPost (model X.prog X.w) X.A X.xe none (EP X pins σ Q) (.ref s2.heap.objs.size) P2.objs.size) { s2 with heap := g, toks := s2.toks + ([] : List (Str × Value)).length } := by
    refine comp_turnsF (fun n s' => ∃ i zs its H', Inv (cxComp X (x :: y :: ys) scope cl P2.objs.size s2 H2 fp) pins (none :: none :: outs σ is) H' s' ∧ tn i s'.heap ∧ (∀ b ∈ fp, H' b = none) ∧ s'.heap.get? s2.heap.objs.size = some (lstO its) ∧ Vals zs its ∧ H' s2.heap.objs.size = none ∧ W i n zs H')
      ?_ m0 ⟨0, [], [], H2, I3, T.keep _ _ _ st2 (fun b _ o e => old b o e), fun b hb => (f2 b hb).1, accD, .nil, I2.hok.fresh (Nat.le_refl _), w0⟩
    rintro n s3 ⟨i, zs, its, H3, J3, st3, fr3, d3, rv3, nd3, w3⟩
    have hzl := rv3.length
    have J3' : Inv (cxComp X (x :: y :: ys) scope cl P2.objs.size s2 H2 fp) (pins ++ [(s2.heap.objs.size, lstO its)]) (none :: none :: outs σ is) H3 s3 := J3.pins_of fun p hp => by
      rcases List.mem_append.mp hp with z | z
      · exact J3.pin p (List.mem_append_right _ z)
      · rw [List.mem_singleton.mp z]
        exact ⟨d3, nd3, hDC, stkD, fun v q => by cases q⟩
    rcases turn i n zs H3 w3 with ⟨stop, hz, q⟩ | ⟨go, hz, step⟩
    · refine wpAny_mono (T.done (cxComp X (x :: y :: ys) scope cl P2.objs.size s2 H2 fp) rfl rfl rfl hc i _ s3 _ H3 noX J3' (stat fr3) st3 stop) (fun r s4 h4 => ?_) fun _ _ z => z.elim
      obtain ⟨hr, I4⟩ := h4
      subst hr
      obtain ⟨m4, hn4, _⟩ := id I4.loc
      refine ⟨m4, hn4, fun h' sb => ?_⟩
      have nC : ∀ b u, H3 b = some u → b ≠ P2.objs.size := fun b u e z => by
        have f4 : H3 P2.objs.size = none := I4.free
        rw [z, f4] at e; cases e
      have d4 : s4.heap.get? s2.heap.objs.size = some (lstO its) := (I4.pin (s2.heap.objs.size, lstO its) (List.mem_append_right _ (List.mem_append_right _ (List.mem_singleton.mpr rfl)))).1
      have d5 : h'.get? s2.heap.objs.size = some (lstO its) := (sb.2 _ hDC).trans d4
      have hok3 : HOk X.prog X.w H3 h' := fun b u e => (I4.hok b u e).stay (fun c v hcc q => (sb.2 c (hcc.elim (fun z => z ▸ nC b u e) (fun z => nC c _ z))).trans q) (fun _ q => q) (fun _ _ q => q)
      have u4 : Un (frs X.stack) fp H2 H3 s2.heap s4.heap := I4.base
      have un : Un (frs X.stack) fp H2 (upd H3 s2.heap.objs.size (.lst zs)) s2.heap h' :=
        ⟨fun b o e n hb hx => (sb.2 b (nc b o e)).trans (u4.keep b o e n hb hx), fun b o e n hb hx => let ⟨sl, q⟩ := u4.slot b o e n hb hx; ⟨sl, (sb.2 b (nc b o e)).trans q⟩,
          fun b o e n hx => by rw [upd_ne (nd b o e)]; exact u4.free b o e n hx, fun b o e hx => let ⟨o', q⟩ := u4.there b o e hx; ⟨o', (sb.2 b (nc b o e)).trans q⟩,
          fun b xs q => by rw [upd_ne (ndH b _ q)]; exact u4.tups b xs q, fun b o u q => by rw [upd_ne (ndH b _ q)]; exact u4.frzs b o u q, fun b ps q => by rw [upd_ne (ndH b _ q)]; exact u4.tbls b ps q⟩
      exact ⟨.ref s2.heap.objs.size, upd H3 s2.heap.objs.size (.lst zs), I2.call' (s' := { s4 with heap := h' }) (ch := fp) I4.os un (hok_track hok3 nd3 ⟨hz, its, its.length, rv3, d5⟩) I4.bare
        (fun b hb => ⟨(f2 b hb).2.2.2.1, (f2 b hb).2.1, (f2 b hb).2.2.2.2.1, (f2 b hb).2.2.2.2.2⟩), rfl, q _ nd3⟩
    · refine wpAny_mono (T.item (cxComp X (x :: y :: ys) scope cl P2.objs.size s2 H2 fp) rfl rfl rfl hc i _ s3 _ H3 noX J3' (stat fr3) st3 go) (fun r s4 h4 => ?_) fun _ _ z => z.elim
      obtain ⟨u, hr, h4⟩ := h4
      subst hr
      refine wpAny_mono h4 (fun _ s5 h5 => ?_) fun _ _ z => z.elim
      obtain ⟨v, H5, I5, r5, y5, st5, fr5⟩ := h5
      obtain ⟨p, va, vb, rfl, hp, step'⟩ := step v H5 y5
      have I5' := I5.pinned (stat fr5) (T.obj _ _ st5)
      have lx : (cxComp X (x :: y :: ys) scope cl P2.objs.size s2 H2 fp).env.scope.names.lookup x = some .local := lookup_relabel_local (S.loc x (by simp))
      have ly : (cxComp X (x :: y :: ys) scope cl P2.objs.size s2 H2 fp).env.scope.names.lookup y = some .local := lookup_relabel_local (S.loc y (by simp))
      have asg := pg_tup (X := cxComp X (x :: y :: ys) scope cl P2.objs.size s2 H2 fp) (pos := pt) (k := kt) (n := 2) hc (pgs_cons (pg_name (pos := px) (i := 0) (x := x) S.nd rfl (.inl lx) (.inr lx)) (pgs_cons (pg_name (pos := py) (i := 1) (x := y) S.nd rfl (.inl ly) (.inr ly)) pgs_nil))
        rfl rfl _ s5 _ H5 (.ref p) u (fun σ6 H6 => σ6 = some va :: some vb :: outs σ is ∧ H6 = H5) I5' r5 ⟨p, [va, vb], rfl, hp, rfl, va, [vb], rfl, vb, [], rfl, rfl, rfl, rfl⟩
      refine wpAny_mono asg (fun _ s6 h6 => ?_) fun _ _ z => z.elim
      obtain ⟨σ6, H6, I6, e6, e6'⟩ := h6
      subst e6 e6'
      refine wpAny_mono (hcd P2.objs.size s2 H2 fp _ s6 _ H6 _ I6 step') (fun ok s6' h6' => ?_) fun _ _ z => z.elim
      obtain ⟨H6', I6', q6⟩ := h6'
      have back : ∀ {H7 : Hp} {s7 : Shared}, Inv (cxComp X (x :: y :: ys) scope cl P2.objs.size s2 H2 fp) ((pins ++ [(s2.heap.objs.size, lstO its)]) ++ pinsAt fp s5.heap) (some va :: some vb :: outs σ is) H7 s7 → Inv (cxComp X (x :: y :: ys) scope cl P2.objs.size s2 H2 fp) pins (none :: none :: outs σ is) H7 s7 := fun I7 => I7.unpinned.unpinned.weak rfl fun j w' e => by
        match j, e with
        | 0, e => cases Option.some.inj e
        | 1, e => cases Option.some.inj e
        | j + 2, e => exact e
      cases ok with
      | false =>
        rw [if_neg Bool.false_ne_true] at q6
        obtain ⟨m', hm', w7⟩ := q6
        have pinD := I6'.pin (s2.heap.objs.size, lstO its) (List.mem_append_right _ (List.mem_append_left _ (List.mem_append_right _ (List.mem_singleton.mpr rfl))))
        rw [if_neg Bool.false_ne_true]
        refine ⟨m', hm', i + 1, zs, its, H6', back I6', T.keep _ _ _ st5 fun b hb o e => ?_, fun b hb => ?_, pinD.1, rv3, pinD.2.1, w7⟩
        · exact (I6'.pin (b, o) (List.mem_append_right _ (List.mem_append_right _ (mem_pinsAt hb e)))).1
        · obtain ⟨o, e, _⟩ := T.obj _ _ st5 b hb
          exact (I6'.pin (b, o) (List.mem_append_right _ (List.mem_append_right _ (mem_pinsAt hb e)))).2.1
      | true =>
        rw [if_pos rfl] at q6 ⊢
        refine wpAny_mono (he P2.objs.size s2 H2 fp _ s6' _ H6' _ I6' q6) (fun yv s7 h7 => ?_) fun _ _ z => z.elim
        obtain ⟨y', H7, I7, r7, m', hm', w7⟩ := h7
        have pinD := I7.pin (s2.heap.objs.size, lstO its) (List.mem_append_right _ (List.mem_append_left _ (List.mem_append_right _ (List.mem_singleton.mpr rfl))))
        refine append_at (hsz := by show its.toArray.size ≤ sizeLine; rw [List.size_toArray]; omega) pinD.1 fun h8 sb8 hD8 => ?_
        have I8 : Inv (cxComp X (x :: y :: ys) scope cl P2.objs.size s2 H2 fp) pins (none :: none :: outs σ is) H7 { s7 with heap := h8 } := (back I7).turned (t' := s7.toks) (it := s2.heap.objs.size) (fun b o hb e => (sb8.2 b hb).trans e) pinD.2.1 hDC (.inr (Nat.le_refl _))
          (fun a c e z => by
            obtain ⟨v', o', ho', _⟩ := I2.cell a c (hcl.get e)
            exact nd c o' ho' z)
          (fun p hp => nd p.1 _ (I2.pin p hp).1)
        refine ⟨m', hm', i + 1, zs ++ [y'], its ++ [yv], H7, I8, T.keep _ _ _ st5 fun b hb o e => ?_, fun b hb => ?_, ?_, rv3.append (.cons r7 .nil), pinD.2.1, w7⟩
        · exact (sb8.2 b (Nat.ne_of_lt (fpo b hb))).trans (I7.pin (b, o) (List.mem_append_right _ (List.mem_append_right _ (mem_pinsAt hb e)))).1
        · obtain ⟨o, e, _⟩ := T.obj _ _ st5 b hb
          exact (I7.pin (b, o) (List.mem_append_right _ (List.mem_append_right _ (mem_pinsAt hb e)))).2.1
        · show h8.get? s2.heap.objs.size = _
          rw [hD8]
          simp [lstO]
  exact codeAny_compStart_list loop (T.self X.A 0 _ _ _ (T.keep _ _ _ st2 (fun b _ o e => old b o e)) loop)
theorem ps_comp2F {X : Cx} {elt iter cnd : Expr} {x y z : Str} {jz : Nat} {px py pz pt pos spos : Pos} {kt : Nat} {scope : Scope} {cl : List (Str × Addr)} {ys : List Str} {is : List Nat} {wi : TI} {te : TE} {tc : TT}
    (hN : X.N.Nodup) (hj : X.N[jz]? = some z) (hzLoc : Loc X.env.scope z) (hsw : swapsWith (.ListComp elt [⟨.Tuple [.Name x px, .Name y py] kt pt, iter, [cnd], 0⟩] scope pos) (some (.Name z pz)) spos.line X.env = pure true) (hc : X.calm = true) (hi : PI X (.Tuple [.Name x px, .Name y py] kt pt) iter wi) (he : ∀ C s H fp, PE (cxComp X (x :: y :: ys) scope cl C s H fp) elt te) (hcd : ∀ C s H fp, PT (cxComp X (x :: y :: ys) scope cl C s H fp) cnd tc)
    (hclos : closureFor scope X.env = pure cl) (S : CompScopeP [x, y] ys scope) (hcl : Clo X cl) (hfr : (scope.names.all fun p => p.2 != .free || (cl.lookup p.1).isSome) = true) (fr : Frees X scope cl ys is)
    (hs : ∀ v, foldedSetIterable iter X.env v = pure v := by intro _; rfl) (hfn : X.fn z = true ∨ X.env.scope.names.lookup z = some .local := by first | exact .inl rfl | exact .inr rfl | assumption) :
    PS X (.Assign [.Name z pz] (.ListComp elt [⟨.Tuple [.Name x px, .Name y py] kt pt, iter, [cnd], 0⟩] scope pos) spos) (tAsg (tComp2F X.K wi is tc te) (gName jz)) := by
  intro pins s σ H D I h
  rw [exec_Assign_Name_used _ _ _ _ hsw]
  refine wpAny_bind (wpAny_standAt (wpAny_bind ?_)); show wpAny _ _ (do let _ ← comprehension (.ListComp elt [⟨.Tuple [.Name x px, .Name y py] kt pt, iter, [cnd], 0⟩] scope pos) scope X.env _ (newList []) false (eval iter X.env) (some (assign (.Name z pz) X.env))) _ _ s
  refine wpAny_bind (thn (wpAny_comprehension_free (use := some (assign (.Name z pz) X.env)) (Q := fun _ s' => SP X pins D .next s') rfl hs hclos S.kind S.nm (thn (hi pins s σ H _ I h) fun xv s1 h1 => thn h1 fun itv s2 h2 => ?_)) fun _ s' hq => wpAny_pure (wpAny_pure hq))
  obtain ⟨it, fp, tn, J, H2, rfl, I2, T, st2, f2, W, ⟨m0, w0⟩, turn⟩ := h2
  have fpo : ∀ b ∈ fp, b < s2.heap.objs.size := fun b hb => by
    obtain ⟨o, e, _⟩ := T.obj _ _ st2 b hb
    exact Heap.lt_size e
  refine wpAny_newObj_type (wpAny_newFunctionEnv S.cell (fun y hy => by cases hy) (fun g hns hsb => ?_) S.kind)
  dsimp only at hns hsb ⊢
  generalize hP2 : s2.heap.push { cls := .type "list", dict := none, data := .seq ([] : List Value).toArray } = P2 at hns hsb ⊢
  have hCs : P2.objs.size = s2.heap.objs.size + 1 := by rw [← hP2, Heap.size_push]
  have hDC : s2.heap.objs.size ≠ P2.objs.size := by omega
  have hle : s2.heap.objs.size ≤ P2.objs.size := by omega
  have nc : ∀ b o, s2.heap.get? b = some o → b ≠ P2.objs.size := fun b o e => Nat.ne_of_lt (Nat.lt_of_lt_of_le (Heap.lt_size e) hle)
  have nd : ∀ b o, s2.heap.get? b = some o → b ≠ s2.heap.objs.size := fun b o e => Nat.ne_of_lt (Heap.lt_size e)
  have ndH : ∀ b u, H2 b = some u → b ≠ s2.heap.objs.size := fun b u e => Nat.ne_of_lt (I2.hok.lt e)
  have old : ∀ b o, s2.heap.get? b = some o → g.get? b = some o := fun b o e => hsb.extBut b o (nc b o e) (Heap.get?_push_of_some _ (hP2 ▸ Heap.get?_push_of_some _ e))
  have accD : g.get? s2.heap.objs.size = some (lstO []) := hsb.extBut _ _ hDC (Heap.get?_push_of_some _ (hP2 ▸ Heap.get?_push_size _ rfl))
  have stkD : s2.heap.objs.size ∉ frs X.stack := fun hb => (List.mem_cons.mp (I2.stkSub _ hb)).elim (fun z => absurd z (Nat.ne_of_gt I2.lt)) (I2.nofs (Nat.le_refl _))
  have I3 : Inv (cxComp X (x :: y :: ys) scope cl P2.objs.size s2 H2 fp) pins (none :: none :: outs σ is) H2 { s2 with heap := g, toks := s2.toks + ([] : List (Str × Value)).length } := comp_invP (pre := [x, y]) I2 f2 fpo S hcl hfr fr hle old hns
  have stat : ∀ {H' : Hp} {o : Obj}, (∀ b ∈ fp, H' b = none) → ∀ b ∈ fp, FpOk (cxComp X (x :: y :: ys) scope cl P2.objs.size s2 H2 fp) (pins ++ [(s2.heap.objs.size, o)]) H' b := fun {H' o} hn b hb => by
    refine ⟨hn b hb, Nat.ne_of_lt (Nat.lt_of_lt_of_le (fpo b hb) hle), fun z => (List.mem_cons.mp (I2.stkSub _ z)).elim (f2 b hb).2.1 (f2 b hb).2.2.1, .inl hb, fun a c e => (f2 b hb).2.2.2.2.1 a c (hcl.get e), fun p hp => ?_⟩
    rcases List.mem_append.mp hp with z | z
    · exact (f2 b hb).2.2.2.2.2 p (List.mem_append_left _ z)
    · rcases List.mem_append.mp z with z | z
      · exact (f2 b hb).2.2.2.2.2 p (List.mem_append_right _ z)
      · rw [List.mem_singleton.mp z]
        exact Nat.ne_of_gt (fpo b hb)
  have loop : codeAny (model X.prog X.w) X.A (.compLoop (.ListComp elt [⟨.Tuple [.Name x px, .Name y py] kt pt, iter, [cnd], 0⟩] scope pos) 0 (.ref it) (.ref s2.heap.objs.size) (compEnvC scope cl P2.objs.size X.env))
      (compPost (model X.prog X.w) X.A X.xe (some (assign (.Name z pz) X.env)) (fun _ s' => SP X pins D .next s') (.ref s2.heap.objs.size) P2.objs.size) { s2 with heap := g, toks := s2.toks + ([] : List (Str × Value)).length } := by
    refine comp_turnsF (fun n s' => ∃ i zs its H', Inv (cxComp X (x :: y :: ys) scope cl P2.objs.size s2 H2 fp) pins (none :: none :: outs σ is) H' s' ∧ tn i s'.heap ∧ (∀ b ∈ fp, H' b = none) ∧ s'.heap.get? s2.heap.objs.size = some (lstO its) ∧ Vals zs its ∧ H' s2.heap.objs.size = none ∧ W i n zs H')
      ?_ m0 ⟨0, [], [], H2, I3, T.keep _ _ _ st2 (fun b _ o e => old b o e), fun b hb => (f2 b hb).1, accD, .nil, I2.hok.fresh (Nat.le_refl _), w0⟩
    rintro n s3 ⟨i, zs, its, H3, J3, st3, fr3, d3, rv3, nd3, w3⟩
    have hzl := rv3.length
    have J3' : Inv (cxComp X (x :: y :: ys) scope cl P2.objs.size s2 H2 fp) (pins ++ [(s2.heap.objs.size, lstO its)]) (none :: none :: outs σ is) H3 s3 := J3.pins_of fun p hp => by
      rcases List.mem_append.mp hp with z | z
      · exact J3.pin p (List.mem_append_right _ z)
      · rw [List.mem_singleton.mp z]
        exact ⟨d3, nd3, hDC, stkD, fun v q => by cases q⟩
    rcases turn i n zs H3 w3 with ⟨stop, hz, q⟩ | ⟨go, hz, step⟩
    · refine wpAny_mono (T.done (cxComp X (x :: y :: ys) scope cl P2.objs.size s2 H2 fp) rfl rfl rfl hc i _ s3 _ H3 noX J3' (stat fr3) st3 stop) (fun r s4 h4 => ?_) fun _ _ z => z.elim
      obtain ⟨hr, I4⟩ := h4
      subst hr
      obtain ⟨m4, hn4, _⟩ := id I4.loc
      have f4 : H3 P2.objs.size = none := I4.free
      have d4 : s4.heap.get? s2.heap.objs.size = some (lstO its) := (I4.pin (s2.heap.objs.size, lstO its) (List.mem_append_right _ (List.mem_append_right _ (List.mem_singleton.mpr rfl)))).1
      have u4 : Un (frs X.stack) fp H2 H3 s2.heap s4.heap := I4.base
      have un : Un (frs X.stack) fp H2 (upd H3 s2.heap.objs.size (.lst zs)) s2.heap s4.heap :=
        ⟨u4.keep, u4.slot, fun b o e n hx => by rw [upd_ne (nd b o e)]; exact u4.free b o e n hx, u4.there,
          fun b xs q => by rw [upd_ne (ndH b _ q)]; exact u4.tups b xs q, fun b o u q => by rw [upd_ne (ndH b _ q)]; exact u4.frzs b o u q, fun b ps q => by rw [upd_ne (ndH b _ q)]; exact u4.tbls b ps q⟩
      have IX : Inv X pins σ (upd H3 s2.heap.objs.size (.lst zs)) s4 := I2.call' (s' := s4) (ch := fp) I4.os un (hok_track I4.hok nd3 ⟨hz, its, its.length, rv3, d4⟩) I4.bare
        (fun b hb => ⟨(f2 b hb).2.2.2.1, (f2 b hb).2.1, (f2 b hb).2.2.2.2.1, (f2 b hb).2.2.2.2.2⟩)
      have cL : P2.objs.size ≠ X.env.locals := Nat.ne_of_gt (Nat.lt_of_lt_of_le I2.lt hle)
      have cC : ∀ a c, X.env.cells.lookup a = some c → c ≠ P2.objs.size := fun a c e => by
        obtain ⟨v', o', ho', _⟩ := I2.cell a c e
        exact nc c o' ho'
      show wpAny _ _ (assign (.Name z pz) X.env (.ref s2.heap.objs.size)) _ _ s4
      refine wpAny_assign_Name (store_ok2 IX hN hj hzLoc (v := .ref s2.heap.objs.size) rfl (fun s5 I5 h5 => ?_) hfn)
      obtain ⟨a5, sb5, ha5⟩ := h5
      have na : P2.objs.size ≠ a5 := ha5.elim (fun e => by rw [e]; exact cL) fun e => Ne.symm (cC _ _ e)
      refine ⟨m4, hn4.sameBut sb5 na, fun h' sb => ⟨_, _, I5.turned (t' := s5.toks) (it := P2.objs.size) (fun b o hb e => (sb.2 b hb).trans e) ?_ cL (.inr (Nat.le_trans I2.sz hle)) cC (fun p hp => nc p.1 _ (I2.pin p hp).1), q _ nd3⟩⟩
      rw [upd_ne (Ne.symm hDC)]; exact f4
    · refine wpAny_mono (T.item (cxComp X (x :: y :: ys) scope cl P2.objs.size s2 H2 fp) rfl rfl rfl hc i _ s3 _ H3 noX J3' (stat fr3) st3 go) (fun r s4 h4 => ?_) fun _ _ z => z.elim
      obtain ⟨u, hr, h4⟩ := h4
      subst hr
      refine wpAny_mono h4 (fun _ s5 h5 => ?_) fun _ _ z => z.elim
      obtain ⟨v, H5, I5, r5, y5, st5, fr5⟩ := h5
      obtain ⟨p, va, vb, rfl, hp, step'⟩ := step v H5 y5
      have I5' := I5.pinned (stat fr5) (T.obj _ _ st5)
      have lx : (cxComp X (x :: y :: ys) scope cl P2.objs.size s2 H2 fp).env.scope.names.lookup x = some .local := lookup_relabel_local (S.loc x (by simp))
      have ly : (cxComp X (x :: y :: ys) scope cl P2.objs.size s2 H2 fp).env.scope.names.lookup y = some .local := lookup_relabel_local (S.loc y (by simp))
      have asg := pg_tup (X := cxComp X (x :: y :: ys) scope cl P2.objs.size s2 H2 fp) (pos := pt) (k := kt) (n := 2) hc (pgs_cons (pg_name (pos := px) (i := 0) (x := x) S.nd rfl (.inl lx) (.inr lx)) (pgs_cons (pg_name (pos := py) (i := 1) (x := y) S.nd rfl (.inl ly) (.inr ly)) pgs_nil))
        rfl rfl _ s5 _ H5 (.ref p) u (fun σ6 H6 => σ6 = some va :: some vb :: outs σ is ∧ H6 = H5) I5' r5 ⟨p, [va, vb], rfl, hp, rfl, va, [vb], rfl, vb, [], rfl, rfl, rfl, rfl⟩
      refine wpAny_mono asg (fun _ s6 h6 => ?_) fun _ _ z => z.elim
      obtain ⟨σ6, H6, I6, e6, e6'⟩ := h6
      subst e6 e6'
      refine wpAny_mono (hcd P2.objs.size s2 H2 fp _ s6 _ H6 _ I6 step') (fun ok s6' h6' => ?_) fun _ _ z => z.elim
      obtain ⟨H6', I6', q6⟩ := h6'
      have back : ∀ {H7 : Hp} {s7 : Shared}, Inv (cxComp X (x :: y :: ys) scope cl P2.objs.size s2 H2 fp) ((pins ++ [(s2.heap.objs.size, lstO its)]) ++ pinsAt fp s5.heap) (some va :: some vb :: outs σ is) H7 s7 → Inv (cxComp X (x :: y :: ys) scope cl P2.objs.size s2 H2 fp) pins (none :: none :: outs σ is) H7 s7 := fun I7 => I7.unpinned.unpinned.weak rfl fun j w' e => by
        match j, e with
        | 0, e => cases Option.some.inj e
        | 1, e => cases Option.some.inj e
        | j + 2, e => exact e
      cases ok with
      | false =>
        rw [if_neg Bool.false_ne_true] at q6
        obtain ⟨m', hm', w7⟩ := q6
        have pinD := I6'.pin (s2.heap.objs.size, lstO its) (List.mem_append_right _ (List.mem_append_left _ (List.mem_append_right _ (List.mem_singleton.mpr rfl))))
        rw [if_neg Bool.false_ne_true]
        refine ⟨m', hm', i + 1, zs, its, H6', back I6', T.keep _ _ _ st5 fun b hb o e => ?_, fun b hb => ?_, pinD.1, rv3, pinD.2.1, w7⟩
        · exact (I6'.pin (b, o) (List.mem_append_right _ (List.mem_append_right _ (mem_pinsAt hb e)))).1
        · obtain ⟨o, e, _⟩ := T.obj _ _ st5 b hb
          exact (I6'.pin (b, o) (List.mem_append_right _ (List.mem_append_right _ (mem_pinsAt hb e)))).2.1
      | true =>
        rw [if_pos rfl] at q6 ⊢
        refine wpAny_mono (he P2.objs.size s2 H2 fp _ s6' _ H6' _ I6' q6) (fun yv s7 h7 => ?_) fun _ _ z => z.elim
        obtain ⟨y', H7, I7, r7, m', hm', w7⟩ := h7
        have pinD := I7.pin (s2.heap.objs.size, lstO its) (List.mem_append_right _ (List.mem_append_left _ (List.mem_append_right _ (List.mem_singleton.mpr rfl))))
        refine append_at (hsz := by show its.toArray.size ≤ sizeLine; rw [List.size_toArray]; omega) pinD.1 fun h8 sb8 hD8 => ?_
        have I8 : Inv (cxComp X (x :: y :: ys) scope cl P2.objs.size s2 H2 fp) pins (none :: none :: outs σ is) H7 { s7 with heap := h8 } := (back I7).turned (t' := s7.toks) (it := s2.heap.objs.size) (fun b o hb e => (sb8.2 b hb).trans e) pinD.2.1 hDC (.inr (Nat.le_refl _))
          (fun a c e z => by
            obtain ⟨v', o', ho', _⟩ := I2.cell a c (hcl.get e)
            exact nd c o' ho' z)
          (fun p hp => nd p.1 _ (I2.pin p hp).1)
        refine ⟨m', hm', i + 1, zs ++ [y'], its ++ [yv], H7, I8, T.keep _ _ _ st5 fun b hb o e => ?_, fun b hb => ?_, ?_, rv3.append (.cons r7 .nil), pinD.2.1, w7⟩
        · exact (sb8.2 b (Nat.ne_of_lt (fpo b hb))).trans (I7.pin (b, o) (List.mem_append_right _ (List.mem_append_right _ (mem_pinsAt hb e)))).1
        · obtain ⟨o, e, _⟩ := T.obj _ _ st5 b hb
          exact (I7.pin (b, o) (List.mem_append_right _ (List.mem_append_right _ (mem_pinsAt hb e)))).2.1
        · show h8.get? s2.heap.objs.size = _
          rw [hD8]
          simp [lstO]
  exact codeAny_compStart_list loop (T.self X.A 0 _ _ _ (T.keep _ _ _ st2 (fun b _ o e => old b o e)) loop)
/-- over zip of two sequences, with a test -/
theorem comp_zipF {K : PySem.W.Frag} {k1 k2 : Bool} {a1 a2 : Addr} {xs ys : List V} {tc : TT} {te : TE} {σ' : L2.St} {H : Hp} {Q : VK} (Pv : Nat → List V → Hp → Prop) (h0 : Pv 0 [] H) (hl : ∀ i zs H, Pv i zs H → Sq K H k1 a1 xs ∧ Sq K H k2 a2 ys) (hy : ∀ i zs H, Pv i zs H → zs.length ≤ i)
    (hlen : xs.length = ys.length) (hz : xs.length < sizeLine)
    (hs : ∀ i x y zs H p (Qt Qf : VK), xs[i]? = some x → ys[i]? = some y → Pv i zs H → H p = none → (∀ v H3, Pv (i + 1) (zs ++ [v]) H3 → Qt v H3) → (∀ H3, Pv (i + 1) zs H3 → Qf .non H3) → tc (some x :: some y :: σ') (upd H p (.tup [x, y])) fun ok H2 => if ok = true then te (some x :: some y :: σ') H2 Qt else Qf .non H2)
    (hd : ∀ zs H, Pv xs.length zs H → ∀ p, H p = none → Q (.ref p) (upd H p (.lst zs))) : CompGo2F K (Itz K k1 k2 a1 a2) tc te σ' H Q := by
  refine ⟨fun i m zs H => m = xs.length - i ∧ i ≤ xs.length ∧ Pv i zs H, ⟨xs.length, by simp, Nat.zero_le _, h0⟩, ?_⟩
  rintro i m zs H ⟨rfl, hi, p⟩
  obtain ⟨q1, q2⟩ := hl i zs H p
  have hzl := hy i zs H p
  by_cases hlt : i < xs.length
  · have hlt2 : i < ys.length := by omega
    refine .inr ⟨⟨xs, ys, xs[i], ys[i], q1, q2, by simp [hlt], by simp [hlt2]⟩, by omega, fun v H' yd => ?_⟩
    obtain ⟨t, x, y, rfl, ht, rfl, e1, e2⟩ := yd
    exact ⟨t, x, y, rfl, SqT.of upd_same, hs i x y zs H t (fun v H3 => ∃ m', m' < xs.length - i ∧ m' = xs.length - (i + 1) ∧ i + 1 ≤ xs.length ∧ Pv (i + 1) (zs ++ [v]) H3) (fun _ H3 => ∃ m', m' < xs.length - i ∧ m' = xs.length - (i + 1) ∧ i + 1 ≤ xs.length ∧ Pv (i + 1) zs H3) (e1 xs q1) (e2 ys q2) p ht (fun v H3 p3 => ⟨xs.length - (i + 1), by omega, rfl, hlt, p3⟩) fun H3 p3 => ⟨xs.length - (i + 1), by omega, rfl, hlt, p3⟩⟩
  · have e : i = xs.length := by omega
    subst e
    exact .inl ⟨⟨xs, ys, q1, q2, .inl (Nat.le_refl _)⟩, by omega, hd zs H p⟩
/-- over enumerate of a list, with a test -/
theorem comp_enumF {K : PySem.W.Frag} {a : Addr} {xs : List V} {tc : TT} {te : TE} {σ' : L2.St} {H : Hp} {Q : VK} (Pv : Nat → List V → Hp → Prop) (h0 : Pv 0 [] H) (hl : ∀ i zs H, Pv i zs H → SqL K H a xs) (hy : ∀ i zs H, Pv i zs H → zs.length ≤ i) (hz : xs.length < sizeLine)
    (hs : ∀ i x zs H p (Qt Qf : VK), xs[i]? = some x → Pv i zs H → H p = none → (∀ v H3, Pv (i + 1) (zs ++ [v]) H3 → Qt v H3) → (∀ H3, Pv (i + 1) zs H3 → Qf .non H3) → tc (some (.int (i : Int)) :: some x :: σ') (upd H p (.tup [.int (i : Int), x])) fun ok H2 => if ok = true then te (some (.int (i : Int)) :: some x :: σ') H2 Qt else Qf .non H2)
    (hd : ∀ zs H, Pv xs.length zs H → ∀ p, H p = none → Q (.ref p) (upd H p (.lst zs))) : CompGo2F K (Ite K a) tc te σ' H Q := by
  refine ⟨fun i m zs H => m = xs.length - i ∧ i ≤ xs.length ∧ Pv i zs H, ⟨xs.length, by simp, Nat.zero_le _, h0⟩, ?_⟩
  rintro i m zs H ⟨rfl, hi, p⟩
  have q := hl i zs H p
  have hzl := hy i zs H p
  by_cases hlt : i < xs.length
  · refine .inr ⟨⟨xs, xs[i], q, by simp [hlt]⟩, by omega, fun v H' yd => ?_⟩
    obtain ⟨t, x, rfl, ht, rfl, e1⟩ := yd
    exact ⟨t, _, x, rfl, SqT.of upd_same, hs i x zs H t (fun v H3 => ∃ m', m' < xs.length - i ∧ m' = xs.length - (i + 1) ∧ i + 1 ≤ xs.length ∧ Pv (i + 1) (zs ++ [v]) H3) (fun _ H3 => ∃ m', m' < xs.length - i ∧ m' = xs.length - (i + 1) ∧ i + 1 ≤ xs.length ∧ Pv (i + 1) zs H3) (e1 xs q) p ht (fun v H3 p3 => ⟨xs.length - (i + 1), by omega, rfl, hlt, p3⟩) fun H3 p3 => ⟨xs.length - (i + 1), by omega, rfl, hlt, p3⟩⟩
  · have e : i = xs.length := by omega
    subst e
    exact .inl ⟨⟨xs, q, Nat.le_refl _⟩, by omega, hd zs H p⟩
end L3
/-! over EXT3 -/
/-! LAW k36 -/
namespace K36
open PySem L2 L3
def top (i : Nat) : Stmt := PySem.Challenge.pw_broadrow_k36_kept_and_merged.main.body.getD i (.Pass ⟨0, 0, 0, 0⟩)
abbrev sFlat : Stmt := top 1
abbrev sMany : Stmt := top 2
abbrev sTaken : Stmt := top 4
abbrev sThings : Stmt := top 5
abbrev sBehind : Stmt := top 6
abbrev sKept : Stmt := top 7
abbrev sMerged : Stmt := top 8
abbrev sDraw : Stmt := top 10
abbrev sNum : Stmt := top 11
abbrev sKind : Stmt := top 12
abbrev sWorth : Stmt := top 13
abbrev sAlike : Stmt := top 14
abbrev sSpoil : Stmt := top 15
abbrev sPut : Stmt := top 16
abbrev sLaw : Stmt := top 17
theorem at0 {v : V} {r : List V} : atI (v :: r) 0 = some v := atI_nat (xs := v :: r) (j := 0) rfl
theorem at1 {u v : V} {r : List V} : atI (u :: v :: r) 1 = some v := atI_nat (xs := u :: v :: r) (j := 1) rfl
theorem at2 {t u v : V} {r : List V} : atI (t :: u :: v :: r) 2 = some v := atI_nat (xs := t :: u :: v :: r) (j := 2) rfl
theorem at3 {s t u v : V} {r : List V} : atI (s :: t :: u :: v :: r) 3 = some v := atI_nat (xs := s :: t :: u :: v :: r) (j := 3) rfl
theorem le1 : 1 ≤ sizeLine := by decide
theorem le2 : 2 ≤ sizeLine := by decide
theorem leK {n : Nat} (h : n ≤ 1000000) : n ≤ sizeLine := Nat.le_trans h (by decide)
theorem ltK {n : Nat} (h : n ≤ 1000000) : n < sizeLine := Nat.lt_of_le_of_lt h (by decide)
theorem ifS {A B : Prop} {a b : Str} (h : a = b) (x : A) : if decide (V.str a = V.str b) = true then A else B := by
  subst h
  rw [if_pos (decide_eq_true rfl)]
  exact x
theorem ifN {A B : Prop} {a b : Str} (h : ¬ a = b) (x : B) : if decide (V.str a = V.str b) = true then A else B := by
  rw [if_neg (fun z => h (V.str.inj (of_decide_eq_true z)))]
  exact x
/-- all but the object at a is kept, and of that list its first item -/
structure SB (a : Addr) (H H' : Hp) : Prop where
  keep : ∀ b u, b ≠ a → H b = some u → H' b = some u
  head : ∀ b r, H a = some (.lst (.ref b :: r)) → ∃ r', H' a = some (.lst (.ref b :: r'))
instance {a : Addr} {H H' : Hp} : CoeFun (SB a H H') (fun _ => ∀ b u, b ≠ a → H b = some u → H' b = some u) := ⟨fun s => s.keep⟩
theorem SB.refl {a : Addr} {H : Hp} : SB a H H := ⟨fun _ _ _ q => q, fun _ r q => ⟨r, q⟩⟩
theorem SB.trans {a : Addr} {H H' H'' : Hp} (x : SB a H H') (y : SB a H' H'') : SB a H H'' := ⟨fun b u n q => y.keep b u n (x.keep b u n q), fun b r q => let ⟨_, q'⟩ := x.head b r q; y.head b _ q'⟩
theorem SB.same {a : Addr} {H H' : Hp} (x : Same H H') : SB a H H' := ⟨fun b u _ q => x b u q, fun b r q => ⟨r, x _ _ q⟩⟩
theorem SB.put {a : Addr} {H : Hp} {xs ys : List V} (h : H a = some (.lst xs)) (e : xs.head? = ys.head?) : SB a H (L2.upd H a (.lst ys)) := ⟨fun b u n q => by rw [upd_ne n]; exact q, fun b r q => by
  rw [h] at q
  cases q
  cases ys with
  | nil => cases e
  | cons y ys =>
    cases Option.some.inj e
    exact ⟨ys, upd_same⟩⟩
structure Txt (mg : Str → Option Value) : Prop where
  isin : mg "isinstance" = none
  int : mg "int" = none
  tup : mg "tuple" = none
  list : mg "list" = none
  bool : mg "bool" = none
  sum : mg "sum" = none
  len : mg "len" = none
  all : mg "all" = none
  zip : mg "zip" = none
  range : mg "range" = none
  enum : mg "enumerate" = none
/-! ### the tape -/
def Tape (H : Hp) (a : Addr) (N : Nat) : Prop := ∃ (b : Addr) (ns : List Int) (x : Nat) (y z : Int), H a = some (.lst [.ref b, .int (x : Int), .int y, .int z]) ∧ H b = some (.lst (ns.map V.int)) ∧ ns.length ≤ 63 ∧ x ≤ N
theorem tape_ne {H : Hp} {a b : Addr} {ns : List Int} {r : List V} (h1 : H a = some (.lst (.ref b :: r))) (h2 : H b = some (.lst (ns.map V.int))) : b ≠ a := fun e => by
  rw [e, h1] at h2
  cases ns with
  | nil => cases h2
  | cons n ns => cases h2
theorem Tape.same {H H' : Hp} {a : Addr} {N : Nat} (s : Same H H') (h : Tape H a N) : Tape H' a N := by
  obtain ⟨b, ns, x, y, z, h1, h2, h3, h4⟩ := h
  exact ⟨b, ns, x, y, z, s _ _ h1, s _ _ h2, h3, h4⟩
theorem Tape.le {H : Hp} {a : Addr} {N M : Nat} (h : Tape H a N) (l : N ≤ M) : Tape H a M := by
  obtain ⟨b, ns, x, y, z, h1, h2, h3, h4⟩ := h
  exact ⟨b, ns, x, y, z, h1, h2, h3, Nat.le_trans h4 l⟩
theorem Tape.there {H : Hp} {a : Addr} {N : Nat} (h : Tape H a N) : H a ≠ none := by
  obtain ⟨b, ns, x, y, z, h1, _⟩ := h
  rw [h1]; intro q; cases q
/-- the first item of the tape -/
def Hd (H : Hp) (a b : Addr) : Prop := ∃ r, H a = some (.lst (.ref b :: r))
theorem Tape.head {H : Hp} {a : Addr} {N : Nat} (h : Tape H a N) : ∃ b, Hd H a b := by
  obtain ⟨b, ns, x, y, z, h1, _⟩ := h
  exact ⟨b, _, h1⟩
theorem Tape.at {H : Hp} {a b : Addr} {N : Nat} (h : Tape H a N) (d : Hd H a b) : H b ≠ none := by
  obtain ⟨b', ns, x, y, z, h1, h2, _⟩ := h
  obtain ⟨r, e⟩ := d
  rw [h1] at e
  cases e
  rw [h2]; intro q; cases q
theorem Hd.sb {H H' : Hp} {a b : Addr} (s : SB a H H') (d : Hd H a b) : Hd H' a b := by
  obtain ⟨r, e⟩ := d
  exact s.head b r e
theorem Tape.put {H : Hp} {a b p : Addr} {N : Nat} {o : HO} (h : Tape H a N) (d : Hd H a b) (n1 : p ≠ a) (n2 : p ≠ b) : Tape (upd H p o) a N := by
  obtain ⟨b', ns, x, y, z, h1, h2, h3, h4⟩ := h
  obtain ⟨r, e⟩ := d
  rw [h1] at e
  cases e
  exact ⟨_, ns, x, y, z, by rw [upd_ne (Ne.symm n1)]; exact h1, by rw [upd_ne (Ne.symm n2)]; exact h2, h3, h4⟩
theorem Hd.put {H : Hp} {a b p : Addr} {o : HO} (d : Hd H a b) (n1 : p ≠ a) : Hd (upd H p o) a b := by
  obtain ⟨r, e⟩ := d
  exact ⟨r, by rw [upd_ne (Ne.symm n1)]; exact e⟩
def spDrawA : Sp := fun vs H Q _ => ∃ (a b : Addr) (m x y z : Int), vs = [.ref a, .int m] ∧ (0 < m ∧ m < 1073741824) ∧ H a = some (.lst [.ref b, .int x, .int y, .int z]) ∧ 0 < z ∧
  ∀ r H', 0 ≤ r → r < m → SB a H H' → (∃ y' z', H' a = some (.lst [.ref b, .int x, .int y', .int z'])) → Q (.int r) H'
def spDraw : Sp := fun vs H Q _ => ∃ (a : Addr) (m : Int) (N : Nat), vs = [.ref a, .int m] ∧ (0 < m ∧ m < 1073741824) ∧ Tape H a N ∧ N < 1152921504606846976 ∧
  ∀ r H', 0 ≤ r → r < m → SB a H H' → Tape H' a (N + 1) → Q (.int r) H'
section
variable {P : Program} {w : World} {K : PySem.W.Frag} {mg : Str → Option Value} {base : Heap} {f : Addr} {fd : FuncData}
theorem scD : FnScope ["tape", "many", "rest", "spot", "cell", "number"] ["tape", "many"] (defScope sDraw) := ⟨rfl, rfl, rfl, by decide +kernel, rfl, by decide +kernel, by decide +kernel⟩
theorem ok_drawA (F : Fun K "_law_draw" "_law_draw" sDraw f fd) : FnOk P w K mg base CX0 1 f fd ["tape", "many"] spDrawA := by
  refine F.ok scD (fun vs H Q E h => ?_) (fun cdv A outer s H vs Q E hr h => ?_)
  · obtain ⟨a, b, m, x, y, z, rfl, _⟩ := h
    rfl
  obtain ⟨a, b, m, x, y, z, rfl, hm, hH, hz, q⟩ := h
  refine ⟨_, pss_cons (ps_if (pt_cmpR op_gt (pe_ix ix_list (pv 0) pe_int (fun _ _ => rfl)) pe_int (nomark _))
      (pss_cons (ps_asg (pe_op op_sub (pe_ix ix_list (pv 0) pe_int (fun _ _ => rfl)) pe_int) (pg_sub (pv 0) pe_int set_list))
      (pss_cons (ps_set (i := 2) scD.nd rfl (Or.inl rfl) (pe_ix ix_list (pv 0) pe_int (fun _ _ => rfl)))
      (pss_cons (ps_asg (pe_op op_fdiv (pv 2) (pv 1)) (pg_sub (pv 0) pe_int set_list))
      (pss_one (ps_ret (pe_op op_mod (pv 2) (pv 1))))))) pss_nil) pss_never, ?_⟩
  refine ⟨_, rfl, a, _, 3, .int z, rfl, rfl, SqL.of hH, at3, _, _, rfl, rfl, _, rfl, ite2 (fun c => ?_) (fun c => absurd (decide_eq_true (show (0 : Int) < z from hz)) c)⟩
  refine ⟨_, rfl, a, _, 3, .int z, rfl, rfl, SqL.of hH, at3, _, _, rfl, rfl, _, rfl, a, _, 3, 3, rfl, rfl, hH, rfl, ?_⟩
  have h1 : upd H a (.lst ([V.ref b, .int x, .int y, .int z].set 3 (.int (z - 1)))) a = some (.lst [.ref b, .int x, .int y, .int (z - 1)]) := upd_same
  refine ⟨_, rfl, a, _, 2, .int y, rfl, rfl, SqL.of h1, at2, ?_⟩
  refine ⟨_, rfl, _, rfl, _, _, rfl, rfl, hm, _, rfl, a, _, 2, 2, rfl, rfl, h1, rfl, ?_⟩
  refine ⟨_, rfl, _, rfl, _, _, rfl, rfl, hm.1, ?_⟩
  exact q _ _ (Int.emod_nonneg y (by omega)) (Int.emod_lt_of_pos y hm.1) ((SB.put hH (by rfl)).trans (SB.put h1 (by rfl))) ⟨_, _, upd_same⟩
theorem ok_draw (F : Fun K "_law_draw" "_law_draw" sDraw f fd) (bG : Binds K fd ["tape", "many"] []) (T : Txt mg) (mF : mg "_law_draw" = some (.ref f)) : FnOk P w K mg base CX0 2 f fd ["tape", "many"] spDraw := by
  have G : FnOk P w K mg base CX0 1 f fd ["tape", "many"] spDrawA := ok_drawA F
  refine F.ok scD (fun vs H Q E h => ?_) (fun cdv A outer s H vs Q E hr h => ?_)
  · obtain ⟨a, m, N, rfl, _⟩ := h
    rfl
  obtain ⟨a, m, N, rfl, hm, ⟨b, ns, x, y, z, hH, hb, hl, hx⟩, hN, q⟩ := h
  have hba : b ≠ a := tape_ne hH hb
  refine ⟨_, pss_cons (ps_if (pt_cmpR op_gt (pe_ix ix_list (pv 0) pe_int (fun _ _ => rfl)) pe_int (nomark _))
      (pss_cons (ps_asg (pe_op op_sub (pe_ix ix_list (pv 0) pe_int (fun _ _ => rfl)) pe_int) (pg_sub (pv 0) pe_int set_list))
      (pss_cons (ps_set (i := 2) scD.nd rfl (Or.inl rfl) (pe_ix ix_list (pv 0) pe_int (fun _ _ => rfl)))
      (pss_cons (ps_asg (pe_op op_fdiv (pv 2) (pv 1)) (pg_sub (pv 0) pe_int set_list))
      (pss_one (ps_ret (pe_op op_mod (pv 2) (pv 1))))))) pss_nil)
    (pss_cons (ps_set (i := 3) scD.nd rfl (Or.inl rfl) (pe_ix ix_list (pv 0) pe_int (fun _ _ => rfl)))
    (pss_cons (ps_asg (pe_op op_add (pv 3) pe_int) (pg_sub (pv 0) pe_int set_list))
    (pss_cons (ps_set (i := 4) scD.nd rfl (Or.inl rfl) pe_int)
    (pss_cons (ps_if (pt_cmpR op_gt (pe_callB call_len_seq rfl T.len PySem.boot_len (pa_cons (pe_ix ix_list (pv 0) pe_int (fun _ _ => rfl)) pa_nil)) pe_int (nomark _))
      (pss_one (ps_set (i := 4) scD.nd rfl (Or.inl rfl) (pe_ix ix_list (pe_ix ix_list (pv 0) pe_int (fun _ _ => rfl)) (pe_op op_mod (pv 3) (pe_callB call_len_seq rfl T.len PySem.boot_len (pa_cons (pe_ix ix_list (pv 0) pe_int (fun _ _ => rfl)) pa_nil))) (fun _ _ => rfl)))) pss_nil)
    (pss_cons (ps_if (PW.pt (pw_and (pt_cmpR op_lt (pv 3) (pe_callB call_len_seq rfl T.len PySem.boot_len (pa_cons (pe_ix ix_list (pv 0) pe_int (fun _ _ => rfl)) pa_nil)) (nomark _)) (pw_and1 (pt_cmpR op_ge (pv 4) (pe_op op_pow pe_int pe_int) (nomark _)))))
      (pss_cons (ps_asg (pe_op op_sub (pv 4) (pe_op op_pow pe_int pe_int)) (pg_sub (pv 0) pe_int set_list))
      (pss_cons (ps_asg pe_int (pg_sub (pv 0) pe_int set_list))
      (pss_one (ps_ret (pe_call G (hr.mono (by omega)) rfl mF F.kp bG .nil pass0 (pa_cons (pv 0) (pa_cons (pv 1) pa_nil))))))) pss_nil)
    (pss_cons (ps_set (i := 5) scD.nd rfl (Or.inl rfl) (pe_op op_mul (pe_op op_add (pe_op op_mod (pv 4) pe_int) pe_int) (pe_op op_add (pe_op op_add (pe_op op_mod (pe_op op_mul (pv 3) (pv 3)) pe_int) (pe_op op_mul pe_int (pv 3))) pe_int)))
    (pss_cons (ps_set (i := 5) scD.nd rfl (Or.inl rfl) (pe_op op_mod (pe_op op_mul (pe_op op_mod (pv 5) pe_int) (pe_op op_mod (pv 5) pe_int)) pe_int))
    (pss_one (ps_ret (pe_op op_mod (pe_op op_mod (pe_op op_add (pe_op op_fdiv (pv 5) pe_int) (pe_op op_mul pe_int (pv 3))) pe_int) (pv 1))))))))))), ?_⟩
  refine ⟨_, rfl, a, _, 3, .int z, rfl, rfl, SqL.of hH, at3, _, _, rfl, rfl, _, rfl, ite2 (fun c => ?_) (fun c => ?_)⟩
  · refine ⟨_, rfl, a, _, 3, .int z, rfl, rfl, SqL.of hH, at3, _, _, rfl, rfl, _, rfl, a, _, 3, 3, rfl, rfl, hH, rfl, ?_⟩
    have h1 : upd H a (.lst ([V.ref b, .int x, .int y, .int z].set 3 (.int (z - 1)))) a = some (.lst [.ref b, .int x, .int y, .int (z - 1)]) := upd_same
    refine ⟨_, rfl, a, _, 2, .int y, rfl, rfl, SqL.of h1, at2, ?_⟩
    refine ⟨_, rfl, _, rfl, _, _, rfl, rfl, hm, _, rfl, a, _, 2, 2, rfl, rfl, h1, rfl, ?_⟩
    refine ⟨_, rfl, _, rfl, _, _, rfl, rfl, hm.1, ?_⟩
    exact q _ _ (Int.emod_nonneg y (by omega)) (Int.emod_lt_of_pos y hm.1) ((SB.put hH (by rfl)).trans (SB.put h1 (by rfl))) ⟨b, ns, x, _, _, upd_same, by rw [upd_ne hba, upd_ne hba]; exact hb, hl, by omega⟩
  refine ⟨_, rfl, a, _, 1, .int x, rfl, rfl, SqL.of hH, at1, ?_⟩
  refine ⟨_, rfl, _, _, rfl, rfl, _, rfl, a, _, 1, 1, rfl, rfl, hH, rfl, ?_⟩
  have h1 : upd H a (.lst ([V.ref b, .int (x : Int), .int y, .int z].set 1 (.int ((x : Int) + 1)))) a = some (.lst [.ref b, .int ((x : Int) + 1), .int y, .int z]) := upd_same
  have s1 : SB a H (upd H a (.lst ([V.ref b, .int (x : Int), .int y, .int z].set 1 (.int ((x : Int) + 1))))) := SB.put hH (by rfl)
  generalize upd H a (.lst ([V.ref b, .int (x : Int), .int y, .int z].set 1 (.int ((x : Int) + 1)))) = H1 at h1 s1 ⊢
  have hb1 : H1 b = some (.lst (ns.map V.int)) := s1 _ _ hba hb
  have pw18 : CPow 10 18 := ⟨by decide, by decide, by decide⟩
  have xb : (-(2 ^ 64) : Int) < (x : Int) ∧ (x : Int) < 2 ^ 64 := by omega
  refine ⟨_, rfl, a, _, 0, .ref b, rfl, rfl, SqL.of h1, at0, b, _, rfl, .inl (SqL.of hb1), _, _, rfl, rfl, _, rfl, ite2 (fun c1 => ?A) (fun c1 => ?B)⟩
  case' A =>
    have hpos : (0 : Int) < ((ns.map V.int).length : Int) := of_decide_eq_true c1
    have hj0 := Int.emod_nonneg (x : Int) (b := ((ns.map V.int).length : Int)) (by omega)
    have hj1 := Int.emod_lt_of_pos (x : Int) hpos
    obtain ⟨j, ej⟩ : ∃ j : Nat, (x : Int) % ((ns.map V.int).length : Int) = (j : Int) := ⟨((x : Int) % ((ns.map V.int).length : Int)).toNat, by omega⟩
    have hjl : j < ns.length := by rw [ej, List.length_map] at hj1; omega
    have hat : atI (ns.map V.int) ((x : Int) % ((ns.map V.int).length : Int)) = some (.int ns[j]) := by
      rw [ej]
      exact atI_nat (by rw [List.getElem?_map, List.getElem?_eq_getElem hjl]; rfl)
    refine ⟨_, rfl, a, _, 0, .ref b, rfl, rfl, SqL.of h1, at0, _, rfl, _, rfl, a, _, 0, .ref b, rfl, rfl, SqL.of h1, at0, b, _, rfl, .inl (SqL.of hb1), _, _, rfl, rfl, hpos, b, _, _, .int ns[j], rfl, rfl, SqL.of hb1, hat, ?_⟩
  all_goals
    refine ⟨_, rfl, _, rfl, a, _, 0, .ref b, rfl, rfl, SqL.of h1, at0, b, _, rfl, .inl (SqL.of hb1), _, _, rfl, rfl, _, rfl, ite2 (fun c2 => ⟨_, rfl, 10, 18, rfl, rfl, pw18, _, _, rfl, rfl, _, rfl, ite2 (fun c3 => ?C) (fun c3 => ?D)⟩) (fun c2 => iteF ?D2)⟩
    case C =>
      refine ⟨_, rfl, 10, 18, rfl, rfl, pw18, _, _, rfl, rfl, _, rfl, a, _, 2, 2, rfl, rfl, h1, rfl, ?_⟩
      refine ⟨_, rfl, a, _, 3, 3, rfl, rfl, upd_same, rfl, ?_⟩
      refine ⟨_, rfl, _, rfl, a, b, m, (x : Int) + 1, _, 40, rfl, hm, upd_same, by decide, fun r H' r0 r1 sb he => ?_⟩
      obtain ⟨y', z', e'⟩ := he
      refine q r H' r0 r1 (s1.trans ((SB.put h1 (by rfl)).trans ((SB.put upd_same (by rfl)).trans sb))) ⟨b, ns, x + 1, y', z', e', sb _ _ hba ?_, hl, by omega⟩
      rw [upd_ne hba, upd_ne hba]
      exact hb1
    case D | D2 =>
      refine ⟨_, rfl, _, _, rfl, rfl, (by show (0 : Int) < 999983; decide), _, _, rfl, rfl, _, rfl, _, rfl, _, _, rfl, rfl, .inl xb, _, _, rfl, rfl, (by show (0 : Int) < 10007; decide), _, rfl, _, _, rfl, rfl, .inl ⟨by decide, by decide⟩, _, _, rfl, rfl, _, _, rfl, rfl, _, _, rfl, rfl, .inl ⟨by omega, by omega⟩, ?_⟩
      refine ⟨_, rfl, _, _, rfl, rfl, (by show (0 : Int) < 1000003; decide), _, rfl, _, _, rfl, rfl, (by show (0 : Int) < 1000003; decide), _, _, rfl, rfl, .inl ⟨by omega, by omega⟩, _, _, rfl, rfl, (by show (0 : Int) < 999979; decide), ?_⟩
      refine ⟨_, rfl, _, _, rfl, rfl, ⟨by decide, by decide⟩, _, rfl, _, _, rfl, rfl, .inl ⟨by decide, by decide⟩, _, _, rfl, rfl, _, _, rfl, rfl, (by show (0 : Int) < 99991; decide), _, rfl, _, _, rfl, rfl, hm.1, ?_⟩
      exact q _ _ (Int.emod_nonneg _ (by omega)) (Int.emod_lt_of_pos _ hm.1) s1 ⟨b, ns, x + 1, y, z, h1, hb1, hl, by omega⟩
end
/-! ### _law_number -/
def spNum : Sp := fun vs H Q _ => ∃ (a : Addr) (N : Nat), vs = [.ref a] ∧ Tape H a N ∧ N < 1100000000000000000 ∧ ∀ i H', -1000000000000000000 ≤ i → i ≤ 1000000000000000000 → SB a H H' → Tape H' a (N + 5) → Q (.int i) H'
section
variable {P : Program} {w : World} {K : PySem.W.Frag} {mg : Str → Option Value} {base : Heap} {f : Addr} {fd : FuncData}
theorem scN : FnScope ["tape", "way", "top", "great"] ["tape"] (defScope sNum) := ⟨rfl, rfl, rfl, by decide +kernel, rfl, by decide +kernel, by decide +kernel⟩
theorem ok_num {g : Addr} {gd : FuncData} (F : Fun K "_law_number" "_law_number" sNum f fd) (D : FnOk P w K mg base CX0 2 g gd ["tape", "many"] spDraw) (bD : Binds K gd ["tape", "many"] []) (kD : PySem.W.keepIn K (.ref g) = true) (mD : mg "_law_draw" = some (.ref g)) :
    FnOk P w K mg base CX0 3 f fd ["tape"] spNum := by
  refine F.ok scN (fun vs H Q E h => ?_) (fun cdv A outer s H vs Q E hr h => ?_)
  · obtain ⟨a, N, rfl, _⟩ := h
    rfl
  obtain ⟨a, N, rfl, tp, hN, q⟩ := h
  have hr2 : Room 2 _ := hr.mono (by omega)
  have pw18 : CPow 10 18 := ⟨by decide, by decide, by decide⟩
  have pw12 : CPow 10 12 := ⟨by decide, by decide, by decide⟩
  have pw6 : CPow 10 6 := ⟨by decide, by decide, by decide⟩
  have e18 : (10 : Int) ^ (18 : Int).toNat = 1000000000000000000 := by decide
  have e12 : (10 : Int) ^ (12 : Int).toNat = 1000000000000 := by decide
  have e6 : (10 : Int) ^ (6 : Int).toNat = 1000000 := by decide
  refine ⟨_, pss_cons (ps_set (i := 1) scN.nd rfl (Or.inl rfl) (pe_call D hr2 rfl mD kD bD .nil pass0 (pa_cons (pv 0) (pa_cons pe_int pa_nil))))
    (pss_cons (ps_if (pt_cmpR op_lt (pv 1) pe_int (nomark _)) (pss_one (ps_ret (pe_op op_sub (pe_call D hr2 rfl mD kD bD .nil pass0 (pa_cons (pv 0) (pa_cons pe_int pa_nil))) pe_int))) pss_nil)
    (pss_cons (ps_if (pt_cmpR op_eq (pv 1) pe_int (nomark _))
      (pss_cons (ps_set (i := 2) scN.nd rfl (Or.inl rfl) (pe_op op_pow pe_int pe_int))
      (pss_one (ps_ret (pe_ix ix_list (pe_lst (pa_cons (pv 2) (pa_cons (pe_op op_sub pe_int (pv 2)) (pa_cons (pe_op op_sub (pv 2) pe_int) (pa_cons (pe_op op_sub pe_int (pv 2)) (pa_cons pe_int pa_nil)))))) (pe_call D hr2 rfl mD kD bD .nil pass0 (pa_cons (pv 0) (pa_cons pe_int pa_nil))) (fun _ _ => rfl))))) pss_nil)
    (pss_cons (ps_set (i := 3) scN.nd rfl (Or.inl rfl) (pe_op op_mul (pe_call D hr2 rfl mD kD bD .nil pass0 (pa_cons (pv 0) (pa_cons (pe_op op_pow pe_int pe_int) pa_nil))) (pe_op op_pow pe_int pe_int)))
    (pss_cons (ps_set (i := 3) scN.nd rfl (Or.inl rfl) (pe_op op_add (pv 3) (pe_op op_mul (pe_call D hr2 rfl mD kD bD .nil pass0 (pa_cons (pv 0) (pa_cons (pe_op op_pow pe_int pe_int) pa_nil))) (pe_op op_pow pe_int pe_int))))
    (pss_cons (ps_set (i := 3) scN.nd rfl (Or.inl rfl) (pe_op op_add (pv 3) (pe_call D hr2 rfl mD kD bD .nil pass0 (pa_cons (pv 0) (pa_cons (pe_op op_pow pe_int pe_int) pa_nil)))))
    (pss_one (ps_ret (pe_op op_mul (pv 3) (pe_op op_sub pe_int (pe_op op_mul pe_int (pe_call D hr2 rfl mD kD bD .nil pass0 (pa_cons (pv 0) (pa_cons pe_int pa_nil))))))))))))), ?_⟩
  refine ⟨_, rfl, a, 6, N, rfl, ⟨by decide, by decide⟩, tp, by omega, fun w1 H1 w0 w6 s1 t1 => ?_⟩
  refine ⟨_, rfl, _, _, rfl, rfl, _, rfl, ite2 (fun c => ?_) (fun c => ?_)⟩
  · refine ⟨_, rfl, a, 19, N + 1, rfl, ⟨by decide, by decide⟩, t1, by omega, fun r H2 r0 r1 s2 t2 => ?_⟩
    exact ⟨_, _, rfl, rfl, q _ _ (by omega) (by omega) (s1.trans s2) (t2.le (by omega))⟩
  refine ⟨_, rfl, rfl, _, rfl, ite2 (fun c2 => ?_) (fun c2 => ?_)⟩
  · refine ⟨10, 18, rfl, rfl, pw18, ?_⟩
    refine ⟨_, rfl, _, rfl, _, _, rfl, rfl, _, rfl, _, _, rfl, rfl, _, rfl, _, _, rfl, rfl, by show 5 ≤ sizeLine; decide, fun p hp => ?_⟩
    have np : p ≠ a := fun e => t1.there (e ▸ hp)
    refine ⟨_, rfl, a, 5, N + 1, rfl, ⟨by decide, by decide⟩, t1.same (same_upd hp _), by omega, fun r H2 r0 r1 s2 t2 => ?_⟩
    have hp2 : H2 p = some (.lst [.int (10 ^ (18 : Int).toNat), .int (0 - 10 ^ (18 : Int).toNat), .int (10 ^ (18 : Int).toNat - 1), .int (1 - 10 ^ (18 : Int).toNat), .int 0]) := s2 p _ np upd_same
    have fin := fun (i : Int) (h1 : -1000000000000000000 ≤ i) (h2 : i ≤ 1000000000000000000) => q i H2 h1 h2 (s1.trans ((SB.same (same_upd hp _)).trans s2)) (t2.le (by omega))
    have hr5 : r = 0 ∨ r = 1 ∨ r = 2 ∨ r = 3 ∨ r = 4 := by omega
    rw [e18] at hp2
    rcases hr5 with e | e | e | e | e <;> subst e
    · exact ⟨p, _, 0, _, rfl, rfl, SqL.of hp2, at0, fin _ (by omega) (by omega)⟩
    · exact ⟨p, _, 1, _, rfl, rfl, SqL.of hp2, at1, fin _ (by omega) (by omega)⟩
    · exact ⟨p, _, 2, _, rfl, rfl, SqL.of hp2, at2, fin _ (by omega) (by omega)⟩
    · exact ⟨p, _, 3, _, rfl, rfl, SqL.of hp2, at3, fin _ (by omega) (by omega)⟩
    · exact ⟨p, _, 4, _, rfl, rfl, SqL.of hp2, atI_nat (j := 4) rfl, fin _ (by omega) (by omega)⟩
  refine ⟨_, rfl, 10, 6, rfl, rfl, pw6, a, _, N + 1, rfl, ⟨by decide, by decide⟩, t1, by omega, fun r1 H2 z1 y1 s2 t2 => ?_⟩
  rw [e6] at y1
  refine ⟨10, 12, rfl, rfl, pw12, _, _, rfl, rfl, .inl ⟨by omega, by omega⟩, ?_⟩
  refine ⟨_, rfl, _, rfl, 10, 6, rfl, rfl, pw6, a, _, N + 2, rfl, ⟨by decide, by decide⟩, t2, by omega, fun r2 H3 z2 y2 s3 t3 => ?_⟩
  rw [e6] at y2
  refine ⟨10, 6, rfl, rfl, pw6, _, _, rfl, rfl, .inl ⟨by omega, by omega⟩, _, _, rfl, rfl, ?_⟩
  refine ⟨_, rfl, _, rfl, 10, 6, rfl, rfl, pw6, a, _, N + 3, rfl, ⟨by decide, by decide⟩, t3, by omega, fun r3 H4 z3 y3 s4 t4 => ?_⟩
  rw [e6] at y3
  refine ⟨_, _, rfl, rfl, ?_⟩
  refine ⟨_, rfl, _, rfl, a, 2, N + 4, rfl, ⟨by decide, by decide⟩, t4, by omega, fun r4 H5 z4 y4 s5 t5 => ?_⟩
  refine ⟨_, _, rfl, rfl, .inl ⟨by decide, by decide⟩, _, _, rfl, rfl, _, _, rfl, rfl, .inr ⟨by omega, by omega⟩, ?_⟩
  have h4 : r4 = 0 ∨ r4 = 1 := by omega
  have ss := s1.trans (s2.trans (s3.trans (s4.trans s5)))
  rcases h4 with e | e <;> subst e
  · exact q _ _ (by rw [e12, e6]; omega) (by rw [e12, e6]; omega) ss t5
  · exact q _ _ (by rw [e12, e6]; omega) (by rw [e12, e6]; omega) ss t5
end
/-! ### _law_alike of two equal things -/
def WS : Nat → Th → Prop
  | 0, _ => False
  | n + 1, .tup ts => ts.length ≤ 1000000 ∧ ∀ u ∈ ts, WS n u
  | n + 1, .lst ts => ts.length ≤ 1000000 ∧ ∀ u ∈ ts, WS n u
  | _ + 1, .int _ => True
  | _ + 1, .bl _ => True
  | _ + 1, _ => False
theorem WS_mono : ∀ {n m : Nat} {t : Th}, WS n t → n ≤ m → WS m t
  | 0, _, _, h, _ => h.elim
  | n + 1, 0, _, _, h => by omega
  | n + 1, m + 1, .tup ts, ⟨h1, h2⟩, h => ⟨h1, fun u hu => WS_mono (h2 u hu) (by omega)⟩
  | n + 1, m + 1, .lst ts, ⟨h1, h2⟩, h => ⟨h1, fun u hu => WS_mono (h2 u hu) (by omega)⟩
  | n + 1, m + 1, .int _, _, _ => trivial
  | n + 1, m + 1, .bl _, _, _ => trivial
  | n + 1, m + 1, .non, h, _ => h.elim
  | n + 1, m + 1, .str _, h, _ => h.elim
def spAlike (K : PySem.W.Frag) (n : Nat) : Sp := fun vs H Q _ => ∃ (v v' : V) (t : Th), vs = [v, v'] ∧ Has K H t v ∧ Has K H t v' ∧ WS n t ∧ ∀ H', Same H H' → Q (.bl true) H'
theorem sq_mono {K : PySem.W.Frag} {H H' : Hp} {k : Bool} {a : Addr} {xs : List V} (s : Same H H') (h : Sq K H k a xs) : Sq K H' k a xs := by
  cases k with
  | true => exact Same.sqt s h
  | false => exact s.seq h
section
variable {P : Program} {w : World} {K : PySem.W.Frag} {mg : Str → Option Value} {base : Heap} {f : Addr} {fd : FuncData}
theorem scA : FnScope ["due", "found"] ["due", "found"] (defScope sAlike) := ⟨rfl, rfl, rfl, by decide +kernel, rfl, by decide +kernel, by decide +kernel⟩
theorem ok_alike {n : Nat} (F : Fun K "_law_alike" "_law_alike" sAlike f fd) (G : FnOk P w K mg base CX0 n f fd ["due", "found"] (spAlike K n)) (bG : Binds K fd ["due", "found"] []) (T : Txt mg) (mF : mg "_law_alike" = some (.ref f)) :
    FnOk P w K mg base CX0 (n + 1) f fd ["due", "found"] (spAlike K (n + 1)) := by
  refine F.ok scA (fun vs H Q E h => ?_) (fun cdv A outer s H vs Q E hr h => ?_)
  · obtain ⟨v, v', t, rfl, _⟩ := h
    rfl
  obtain ⟨v, v', t, rfl, ht, ht', hw, q⟩ := h
  refine ⟨_, pss_cons (ps_if (pt_val (pe_callB (isI_two (c1 := "list") (c2 := "tuple") (by decide) (by decide)) rfl T.isin PyProof.Rows.boot_isinstance (pa_cons (pv 0) (pa_cons (pe_tup (pa_cons (pe_ty rfl T.list PyProof.Rows.boot_list) (pa_cons (pe_ty rfl T.tup PyProof.Rows.boot_tuple) pa_nil))) pa_nil))))
      (pss_cons (ps_if (pt_cmpR op_ne (pe_callB (isI_call (c := "list") (by decide)) rfl T.isin PyProof.Rows.boot_isinstance (pa_cons (pv 0) (pa_cons (pe_ty rfl T.list PyProof.Rows.boot_list) pa_nil))) (pe_callB (isI_call (c := "list") (by decide)) rfl T.isin PyProof.Rows.boot_isinstance (pa_cons (pv 1) (pa_cons (pe_ty rfl T.list PyProof.Rows.boot_list) pa_nil))) (nomark _)) (pss_one (ps_ret pe_bl)) pss_nil)
      (pss_cons (ps_if (pt_cmpR op_ne (pe_callB (isI_call (c := "tuple") (by decide)) rfl T.isin PyProof.Rows.boot_isinstance (pa_cons (pv 0) (pa_cons (pe_ty rfl T.tup PyProof.Rows.boot_tuple) pa_nil))) (pe_callB (isI_call (c := "tuple") (by decide)) rfl T.isin PyProof.Rows.boot_isinstance (pa_cons (pv 1) (pa_cons (pe_ty rfl T.tup PyProof.Rows.boot_tuple) pa_nil))) (nomark _)) (pss_one (ps_ret pe_bl)) pss_nil)
      (pss_cons (ps_if (pt_cmpR op_ne (pe_callB call_len_seq rfl T.len PySem.boot_len (pa_cons (pv 0) pa_nil)) (pe_callB call_len_seq rfl T.len PySem.boot_len (pa_cons (pv 1) pa_nil)) (nomark _)) (pss_one (ps_ret pe_bl)) pss_nil)
      (pss_one (ps_ret (pe_callB (call_allB rfl) rfl T.all PyProof.Rows.boot_all (pa_cons
        (pe_comp2 (cl := []) (ys := []) (is := []) rfl (pi_zip rfl T.zip (pa_cons (pv 0) (pa_cons (pv 1) pa_nil))) (fun C s' H' fp => pe_call G hr rfl mF F.kp bG .nil pass0 (pa_cons (pv 0) (pa_cons (pv 1) pa_nil))) (by with_unfolding_all rfl) ⟨rfl, by decide +kernel, by decide +kernel, by decide +kernel, by decide +kernel⟩ .nil rfl .nil) pa_nil))))))) pss_nil)
    (pss_cons (ps_if (pt_cmpR op_ne (pe_callB (isI_call (c := "bool") (by decide)) rfl T.isin PyProof.Rows.boot_isinstance (pa_cons (pv 0) (pa_cons (pe_ty rfl T.bool PyProof.Rows.boot_bool) pa_nil))) (pe_callB (isI_call (c := "bool") (by decide)) rfl T.isin PyProof.Rows.boot_isinstance (pa_cons (pv 1) (pa_cons (pe_ty rfl T.bool PyProof.Rows.boot_bool) pa_nil))) (nomark _)) (pss_one (ps_ret pe_bl)) pss_nil)
    (pss_one (ps_ret (pe_cmpR op_eq (pv 0) (pv 1) (nomark _))))), ?_⟩
  refine ⟨_, rfl, le2, fun p0 g0 => ?_⟩
  have s0 : Same H (upd H p0 (.tup [V.ty "list", V.ty "tuple"])) := same_upd g0 _
  have g1 := ht.mono s0
  have g1' := ht'.mono s0
  cases t with
  | non => exact hw.elim
  | str z => exact hw.elim
  | int i =>
    refine ⟨_, _, p0, rfl, SqT.of upd_same, g1, _, rfl, iteF ?_⟩
    refine ⟨_, rfl, _, _, rfl, g1, _, rfl, _, _, rfl, g1', rfl, _, rfl, iteNS rfl ?_⟩
    obtain rfl : v = .int i := ht
    obtain rfl : v' = .int i := ht'
    refine ⟨_, rfl, _, rfl, rfl, ?_⟩
    rw [decide_eq_true rfl]
    exact q _ s0
  | bl i =>
    refine ⟨_, _, p0, rfl, SqT.of upd_same, g1, _, rfl, iteF ?_⟩
    refine ⟨_, rfl, _, _, rfl, g1, _, rfl, _, _, rfl, g1', rfl, _, rfl, iteNS rfl ?_⟩
    obtain rfl : v = .bl i := ht
    obtain rfl : v' = .bl i := ht'
    refine ⟨_, rfl, _, rfl, rfl, ?_⟩
    rw [decide_eq_true rfl]
    exact q _ s0
  | tup ts =>
    obtain ⟨hlen, hall⟩ := hw
    obtain ⟨a, vs, rfl, hS, hL⟩ := id ht
    obtain ⟨a', vs', rfl, hS', hL'⟩ := id ht'
    have z : Sq K (upd H p0 (.tup [V.ty "list", V.ty "tuple"])) true a vs := Same.sqt s0 hS
    have z' : Sq K (upd H p0 (.tup [V.ty "list", V.ty "tuple"])) true a' vs' := Same.sqt s0 hS'
    have hl : vs.length = ts.length := hL.length
    have hl' : vs'.length = ts.length := hL'.length
    refine ⟨_, _, p0, rfl, SqT.of upd_same, g1, _, rfl, iteT ?_⟩
    refine ⟨_, rfl, _, _, rfl, g1, _, rfl, _, _, rfl, g1', rfl, _, rfl, iteNS rfl ?_⟩
    refine ⟨_, rfl, _, _, rfl, g1, _, rfl, _, _, rfl, g1', rfl, _, rfl, iteNS rfl ?_⟩
    refine ⟨_, rfl, a, vs, rfl, .inr z, _, rfl, a', vs', rfl, .inr z', rfl, _, rfl, iteNS (by rw [hl, hl']) ?_⟩
    refine ⟨_, rfl, _, rfl, true, true, a, a', rfl, ⟨_, z⟩, ⟨_, z'⟩, ?_⟩
    refine comp_zip (K := K) (xs := vs) (ys := vs') (fun i zs H2 => Same (upd H p0 (.tup [V.ty "list", V.ty "tuple"])) H2 ∧ zs = (List.replicate i true).map V.bl) ⟨Same.refl _, rfl⟩ (fun i zs H2 h2 => ⟨sq_mono h2.1 z, sq_mono h2.1 z'⟩) (fun i zs H2 h2 => by rw [h2.2, List.length_map, List.length_replicate]) (by omega) (ltK (by omega)) ?_ ?_
    · rintro i x y zs H2 pp Q2 hx hy ⟨s2, rfl⟩ hp k
      obtain ⟨u, e1, e2⟩ := hL.get' hx
      obtain ⟨u', e1', e2'⟩ := hL'.get' hy
      rw [e1] at e1'
      cases e1'
      have s3 := s0.trans (s2.trans (same_upd hp (.tup [x, y])))
      refine ⟨_, rfl, _, rfl, x, y, u, rfl, e2.mono s3, e2'.mono s3, hall _ (List.mem_of_getElem? e1), fun H3 s4 => k _ _ ⟨s2.trans ((same_upd hp _).trans s4), ?_⟩⟩
      rw [List.replicate_succ', List.map_append]
      rfl
    · rintro zs H2 ⟨s2, rfl⟩ p2 hp2
      refine ⟨p2, List.replicate vs.length true, rfl, SqL.of upd_same, ?_⟩
      have ea : (List.replicate vs.length true).all id = true := by
        rw [List.all_eq_true]
        intro b hb
        exact List.eq_of_mem_replicate hb
      rw [ea]
      exact q _ (s0.trans (s2.trans (same_upd hp2 _)))
  | lst ts =>
    obtain ⟨hlen, hall⟩ := hw
    obtain ⟨a, vs, rfl, hS, hL⟩ := id ht
    obtain ⟨a', vs', rfl, hS', hL'⟩ := id ht'
    have z : Sq K (upd H p0 (.tup [V.ty "list", V.ty "tuple"])) false a vs := s0.seq (SqL.of hS)
    have z' : Sq K (upd H p0 (.tup [V.ty "list", V.ty "tuple"])) false a' vs' := s0.seq (SqL.of hS')
    have hl : vs.length = ts.length := hL.length
    have hl' : vs'.length = ts.length := hL'.length
    refine ⟨_, _, p0, rfl, SqT.of upd_same, g1, _, rfl, iteT ?_⟩
    refine ⟨_, rfl, _, _, rfl, g1, _, rfl, _, _, rfl, g1', rfl, _, rfl, iteNS rfl ?_⟩
    refine ⟨_, rfl, _, _, rfl, g1, _, rfl, _, _, rfl, g1', rfl, _, rfl, iteNS rfl ?_⟩
    refine ⟨_, rfl, a, vs, rfl, .inl z, _, rfl, a', vs', rfl, .inl z', rfl, _, rfl, iteNS (by rw [hl, hl']) ?_⟩
    refine ⟨_, rfl, _, rfl, false, false, a, a', rfl, ⟨_, z⟩, ⟨_, z'⟩, ?_⟩
    refine comp_zip (K := K) (xs := vs) (ys := vs') (fun i zs H2 => Same (upd H p0 (.tup [V.ty "list", V.ty "tuple"])) H2 ∧ zs = (List.replicate i true).map V.bl) ⟨Same.refl _, rfl⟩ (fun i zs H2 h2 => ⟨sq_mono h2.1 z, sq_mono h2.1 z'⟩) (fun i zs H2 h2 => by rw [h2.2, List.length_map, List.length_replicate]) (by omega) (ltK (by omega)) ?_ ?_
    · rintro i x y zs H2 pp Q2 hx hy ⟨s2, rfl⟩ hp k
      obtain ⟨u, e1, e2⟩ := hL.get' hx
      obtain ⟨u', e1', e2'⟩ := hL'.get' hy
      rw [e1] at e1'
      cases e1'
      have s3 := s0.trans (s2.trans (same_upd hp (.tup [x, y])))
      refine ⟨_, rfl, _, rfl, x, y, u, rfl, e2.mono s3, e2'.mono s3, hall _ (List.mem_of_getElem? e1), fun H3 s4 => k _ _ ⟨s2.trans ((same_upd hp _).trans s4), ?_⟩⟩
      rw [List.replicate_succ', List.map_append]
      rfl
    · rintro zs H2 ⟨s2, rfl⟩ p2 hp2
      refine ⟨p2, List.replicate vs.length true, rfl, SqL.of upd_same, ?_⟩
      have ea : (List.replicate vs.length true).all id = true := by
        rw [List.all_eq_true]
        intro b hb
        exact List.eq_of_mem_replicate hb
      rw [ea]
      exact q _ (s0.trans (s2.trans (same_upd hp2 _)))
theorem all_alike (F : Fun K "_law_alike" "_law_alike" sAlike f fd) (bG : Binds K fd ["due", "found"] []) (T : Txt mg) (mF : mg "_law_alike" = some (.ref f)) : ∀ n, FnOk P w K mg base CX0 n f fd ["due", "found"] (spAlike K n)
  | 0 => ⟨fun vs H Q E h => by obtain ⟨_, _, _, _, _, _, hd, _⟩ := h; exact hd.elim, fun A outer s H args us vs Q E _ _ _ _ h => by obtain ⟨_, _, _, _, _, _, hd, _⟩ := h; exact hd.elim⟩
  | n + 1 => ok_alike F (all_alike F bG T mF n) bG T mF
end
/-! ### things that == can be asked of -/
mutual
theorem lay_of : ∀ {n : Nat} {t : Th}, WS n t → (toD t).canLay0 = true
  | 0, _, h => h.elim
  | n + 1, .tup ts, ⟨_, h⟩ => layL_of h
  | n + 1, .lst ts, ⟨_, h⟩ => layL_of h
  | n + 1, .int _, _ => rfl
  | n + 1, .bl _, _ => rfl
  | n + 1, .non, h => h.elim
  | n + 1, .str _, h => h.elim
theorem layL_of : ∀ {n : Nat} {ts : List Th}, (∀ u ∈ ts, WS n u) → PyData.canLayAll0 (toDs ts) = true
  | _, [], _ => rfl
  | n, t :: ts, h => by
    show (PyData.canLay0 (toD t) && PyData.canLayAll0 (toDs ts)) = true
    rw [lay_of (h t List.mem_cons_self), layL_of (n := n) fun u hu => h u (List.mem_cons_of_mem _ hu)]
    rfl
end
mutual
theorem dep_of : ∀ {n : Nat} {t : Th}, WS n t → (toD t).depth ≤ n
  | 0, _, h => h.elim
  | n + 1, .tup ts, ⟨_, h⟩ => by
    have := depL_of h
    show PyData.depthAll (toDs ts) + 1 ≤ n + 1
    omega
  | n + 1, .lst ts, ⟨_, h⟩ => by
    have := depL_of h
    show PyData.depthAll (toDs ts) + 1 ≤ n + 1
    omega
  | n + 1, .int _, _ => Nat.zero_le _
  | n + 1, .bl _, _ => Nat.zero_le _
  | n + 1, .non, h => h.elim
  | n + 1, .str _, h => h.elim
theorem depL_of : ∀ {n : Nat} {ts : List Th}, (∀ u ∈ ts, WS n u) → PyData.depthAll (toDs ts) ≤ n
  | _, [], _ => Nat.zero_le _
  | n, t :: ts, h => by
    have h1 := dep_of (h t List.mem_cons_self)
    have h2 := depL_of (n := n) fun u hu => h u (List.mem_cons_of_mem _ hu)
    show max (PyData.depth (toD t)) (PyData.depthAll (toDs ts)) ≤ n
    omega
end
theorem ok_of {n : Nat} {t : Th} (h : WS n t) (hn : n ≤ 64) : okTh t := by
  have h1 := lay_of h
  have h2 := dep_of h
  show (PyData.canLay0 (toD t) && decide (PyData.depth (toD t) ≤ 64)) = true
  rw [h1, decide_eq_true (show PyData.depth (toD t) ≤ 64 by omega)]
  rfl
/-! ### kinds, worths, flats -/
inductive Kd where
  | num | truth | pair (a b : Kd) | row (a : Kd)
def Kd.th : Kd → Th
  | .num => .tup [.str "num"]
  | .truth => .tup [.str "truth"]
  | .pair a b => .tup [.str "pair", a.th, b.th]
  | .row a => .tup [.str "row", a.th]
def Kd.deep : Kd → Nat
  | .num => 0
  | .truth => 0
  | .pair a b => max a.deep b.deep + 1
  | .row a => a.deep + 1
def fst : Th → Th
  | .tup (x :: _) => x
  | t => t
def snd : Th → Th
  | .tup (_ :: y :: _) => y
  | t => t
def kids : Th → List Th
  | .lst ts => ts
  | _ => []
def lenT (t : Th) : Th := .int ((kids t).length : Int)
def OfK : Kd → Th → Prop
  | .num, .int i => -1000000000000000000 ≤ i ∧ i ≤ 1000000000000000000
  | .truth, .bl _ => True
  | .pair a b, .tup [x, y] => OfK a x ∧ OfK b y
  | .row a, .lst ts => ts.length ≤ 200 ∧ ∀ t ∈ ts, OfK a t
  | _, _ => False
def flatT : Kd → List Th → Th
  | .num, ts => .lst ts
  | .truth, ts => .lst ts
  | .pair a b, ts => .tup [flatT a (ts.map fst), flatT b (ts.map snd)]
  | .row a, ts => .tup [.lst (ts.map lenT), flatT a (ts.flatMap kids)]
theorem ofK_pair {a b : Kd} : ∀ {t : Th}, OfK (.pair a b) t → ∃ x y, t = .tup [x, y] ∧ OfK a x ∧ OfK b y
  | .tup [x, y], h => ⟨x, y, rfl, h⟩
  | .tup [], h => h.elim
  | .tup [_], h => h.elim
  | .tup (_ :: _ :: _ :: _), h => h.elim
  | .lst _, h => h.elim
  | .int _, h => h.elim
  | .bl _, h => h.elim
  | .str _, h => h.elim
  | .non, h => h.elim
theorem ofK_row {a : Kd} : ∀ {t : Th}, OfK (.row a) t → ∃ ts, t = .lst ts ∧ ts.length ≤ 200 ∧ ∀ u ∈ ts, OfK a u
  | .lst ts, h => ⟨ts, rfl, h⟩
  | .tup _, h => h.elim
  | .int _, h => h.elim
  | .bl _, h => h.elim
  | .str _, h => h.elim
  | .non, h => h.elim
theorem ofK_num : ∀ {t : Th}, OfK .num t → ∃ i, t = .int i ∧ -1000000000000000000 ≤ i ∧ i ≤ 1000000000000000000
  | .int i, h => ⟨i, rfl, h⟩
  | .tup _, h => h.elim
  | .lst _, h => h.elim
  | .bl _, h => h.elim
  | .str _, h => h.elim
  | .non, h => h.elim
theorem ofK_truth : ∀ {t : Th}, OfK .truth t → ∃ b, t = .bl b
  | .bl b, _ => ⟨b, rfl⟩
  | .tup _, h => h.elim
  | .lst _, h => h.elim
  | .int _, h => h.elim
  | .str _, h => h.elim
  | .non, h => h.elim
mutual
def nod : Th → Nat
  | .tup ts => 1 + nodL ts
  | .lst ts => 1 + nodL ts
  | _ => 1
def nodL : List Th → Nat
  | [] => 0
  | t :: ts => nod t + nodL ts
end
theorem nod_pos (t : Th) : 1 ≤ nod t := by cases t <;> unfold nod <;> omega
theorem nodL_app (a b : List Th) : nodL (a ++ b) = nodL a + nodL b := by
  induction a with
  | nil => show nodL b = 0 + nodL b; omega
  | cons t a ih => show nod t + nodL (a ++ b) = nod t + nodL a + nodL b; omega
theorem nodL_len (ts : List Th) : ts.length ≤ nodL ts := by
  induction ts with
  | nil => exact Nat.le_refl _
  | cons t ts ih =>
    have := nod_pos t
    show ts.length + 1 ≤ nod t + nodL ts
    omega
theorem nodL_le {B : Nat} {ts : List Th} (h : ∀ u ∈ ts, nod u ≤ B) : nodL ts ≤ ts.length * B := by
  induction ts with
  | nil => exact Nat.zero_le _
  | cons t ts ih =>
    have h1 := h t List.mem_cons_self
    have h2 := ih fun u hu => h u (List.mem_cons_of_mem _ hu)
    show nod t + nodL ts ≤ (ts.length + 1) * B
    rw [Nat.add_mul]
    omega
theorem nodL_map {g : Th → Th} (hg : ∀ t, nod (g t) ≤ nod t) (ts : List Th) : nodL (ts.map g) ≤ nodL ts := by
  induction ts with
  | nil => exact Nat.le_refl _
  | cons t ts ih =>
    have := hg t
    show nod (g t) + nodL (ts.map g) ≤ nod t + nodL ts
    omega
theorem nod_fst (t : Th) : nod (fst t) ≤ nod t := by
  match t with
  | .tup [] => exact Nat.le_refl _
  | .tup (x :: r) => show nod x ≤ 1 + (nod x + nodL r); omega
  | .lst _ => exact Nat.le_refl _
  | .int _ => exact Nat.le_refl _
  | .bl _ => exact Nat.le_refl _
  | .str _ => exact Nat.le_refl _
  | .non => exact Nat.le_refl _
theorem nod_snd (t : Th) : nod (snd t) ≤ nod t := by
  match t with
  | .tup [] => exact Nat.le_refl _
  | .tup [_] => exact Nat.le_refl _
  | .tup (x :: y :: r) => show nod y ≤ 1 + (nod x + (nod y + nodL r)); omega
  | .lst _ => exact Nat.le_refl _
  | .int _ => exact Nat.le_refl _
  | .bl _ => exact Nat.le_refl _
  | .str _ => exact Nat.le_refl _
  | .non => exact Nat.le_refl _
theorem nodL_kids (t : Th) : nodL (kids t) ≤ nod t := by
  match t with
  | .tup _ => exact Nat.zero_le _
  | .lst ts => show nodL ts ≤ 1 + nodL ts; omega
  | .int _ => exact Nat.zero_le _
  | .bl _ => exact Nat.zero_le _
  | .str _ => exact Nat.zero_le _
  | .non => exact Nat.zero_le _
theorem nodL_flat (ts : List Th) : nodL (ts.flatMap kids) ≤ nodL ts := by
  induction ts with
  | nil => exact Nat.le_refl _
  | cons t ts ih =>
    have := nodL_kids t
    rw [List.flatMap_cons, nodL_app]
    show _ ≤ nod t + nodL ts
    omega
theorem nodL_take (ts : List Th) (n : Nat) : nodL (ts.take n) ≤ nodL ts := by
  have h := nodL_app (ts.take n) (ts.drop n)
  rw [List.take_append_drop] at h
  omega
theorem flat_ws : ∀ (k : Kd) (ts : List Th), (∀ t ∈ ts, OfK k t) → nodL ts ≤ 1000000 → WS (k.deep + 2) (flatT k ts)
  | .num, ts, h, hn => ⟨Nat.le_trans (nodL_len ts) hn, fun u hu => by obtain ⟨i, rfl, _⟩ := ofK_num (h u hu); trivial⟩
  | .truth, ts, h, hn => ⟨Nat.le_trans (nodL_len ts) hn, fun u hu => by obtain ⟨b, rfl⟩ := ofK_truth (h u hu); trivial⟩
  | .pair a b, ts, h, hn => ⟨by show 2 ≤ 1000000; omega, fun u hu => by
      simp only [List.mem_cons, List.not_mem_nil, or_false] at hu
      have e : (Kd.pair a b).deep = max a.deep b.deep + 1 := rfl
      rcases hu with rfl | rfl
      · refine WS_mono (flat_ws a (ts.map fst) (fun t ht => ?_) (Nat.le_trans (nodL_map nod_fst ts) hn)) (by omega)
        obtain ⟨t', h', rfl⟩ := List.mem_map.mp ht
        obtain ⟨x, y, rfl, hx, _⟩ := ofK_pair (h t' h')
        exact hx
      · refine WS_mono (flat_ws b (ts.map snd) (fun t ht => ?_) (Nat.le_trans (nodL_map nod_snd ts) hn)) (by omega)
        obtain ⟨t', h', rfl⟩ := List.mem_map.mp ht
        obtain ⟨x, y, rfl, _, hy⟩ := ofK_pair (h t' h')
        exact hy⟩
  | .row a, ts, h, hn => ⟨by show 2 ≤ 1000000; omega, fun u hu => by
      simp only [List.mem_cons, List.not_mem_nil, or_false] at hu
      have e : (Kd.row a).deep = a.deep + 1 := rfl
      rcases hu with rfl | rfl
      · refine ⟨by rw [List.length_map]; exact Nat.le_trans (nodL_len ts) hn, fun u hu => ?_⟩
        obtain ⟨t', _, rfl⟩ := List.mem_map.mp hu
        rw [e]
        trivial
      · refine WS_mono (flat_ws a (ts.flatMap kids) (fun t ht => ?_) (Nat.le_trans (nodL_flat ts) hn)) (by omega)
        obtain ⟨t', h', h2⟩ := List.mem_flatMap.mp ht
        obtain ⟨us, rfl, _, hu⟩ := ofK_row (h t' h')
        exact hu t h2⟩
/-! ### flat_of -/
theorem none_back {H H' : Hp} (s : Same H H') {b : Addr} (h : H' b = none) : H b = none := by
  cases e : H b with
  | none => rfl
  | some u => rw [s _ _ e] at h; cases h
theorem call_lenK {X : Cx} {K : PySem.W.Frag} (h : X.K = K) : CallR X (.builtin "len") (fun xs H Q => ∃ p ys, xs = [.ref p] ∧ (SqL K H p ys ∨ SqT K H p ys) ∧ Q (.int ys.length) H) := h ▸ call_len_seq
def spFlat (K : PySem.W.Frag) (n : Nat) : Sp := fun vs H Q _ => ∃ (kv : V) (wa : Addr) (k : Kd) (ts : List Th) (ws : List V), vs = [kv, .ref wa] ∧ Has K H k.th kv ∧ k.deep < n ∧ H wa = some (.lst ws) ∧ HasL K H ts ws ∧ (∀ t ∈ ts, OfK k t) ∧ nodL ts ≤ 1000000 ∧
  ∀ v H', Same H H' → HasF K H' (fun b => H b = none) (flatT k ts) v → Q v H'
theorem leaves {K : PySem.W.Frag} {H H' : Hp} {F : Addr → Prop} : ∀ {ts : List Th} {vs : List V}, HasL K H ts vs → (∀ t ∈ ts, OfK .num t ∨ OfK .truth t) → HasFL K H' F ts vs
  | [], _, h, _ => h
  | t :: ts, _, ⟨v, r, e, h1, h2⟩, hl => ⟨v, r, e, by
      rcases hl t List.mem_cons_self with z | z
      · obtain ⟨i, rfl, _⟩ := ofK_num z; exact h1
      · obtain ⟨b, rfl⟩ := ofK_truth z; exact h1, leaves h2 fun u hu => hl u (List.mem_cons_of_mem _ hu)⟩
theorem lens_F {K : PySem.W.Frag} {H H' : Hp} {F : Addr → Prop} : ∀ {ts : List Th} {vs : List V}, HasL K H (ts.map lenT) vs → HasFL K H' F (ts.map lenT) vs
  | [], _, h => h
  | t :: ts, _, ⟨v, r, e, h1, h2⟩ => ⟨v, r, e, h1, lens_F (ts := ts) h2⟩
theorem take_map {α β : Type} (g : α → β) {ts : List α} {i : Nat} {t : α} (e : ts[i]? = some t) : (ts.take (i + 1)).map g = (ts.take i).map g ++ [g t] := by
  rw [List.take_add_one, e, List.map_append]
  rfl
section
variable {P : Program} {w : World} {K : PySem.W.Frag} {mg : Str → Option Value} {base : Heap} {f : Addr} {fd : FuncData}
theorem scF : FnScope ["kind", "worths", "things", "worth"] ["kind", "worths"] (defScope sFlat) := ⟨rfl, rfl, rfl, by decide +kernel, rfl, by decide +kernel, by decide +kernel⟩
theorem ok_flat {n : Nat} (F : Fun K "flat_of" "flat_of" sFlat f fd) (G : FnOk P w K mg base CX0 n f fd ["kind", "worths"] (spFlat K n)) (bG : Binds K fd ["kind", "worths"] []) (T : Txt mg) (mF : mg "flat_of" = some (.ref f)) :
    FnOk P w K mg base CX0 (n + 1) f fd ["kind", "worths"] (spFlat K (n + 1)) := by
  refine F.ok scF (fun vs H Q E h => ?_) (fun cdv A outer s H vs Q E hr h => ?_)
  · obtain ⟨kv, wa, k, ts, ws, rfl, _⟩ := h
    rfl
  obtain ⟨kv, wa, k, ts, ws, rfl, hk, hd, hw, hL, hok, hn, q⟩ := h
  have hlw : ws.length ≤ 1000000 := by rw [hL.length]; exact Nat.le_trans (nodL_len ts) hn
  refine ⟨_, pss_cons (ps_if (pt_cmpR op_eq (pe_ix ix_tup (pv 0) pe_int (fun _ _ => rfl)) pe_str (nomark _))
      (pss_one (ps_ret (pe_tup (pa_cons (pe_call G hr rfl mF F.kp bG .nil pass0 (pa_cons (pe_ix ix_tup (pv 0) pe_int (fun _ _ => rfl)) (pa_cons
          (pe_comp (cl := []) (ys := []) (is := []) rfl (pi_list (pv 1)) (fun C s' H' fp => pe_ix (ix_tupK (K := K) rfl) (pv 0) pe_int (fun _ _ => rfl)) (by with_unfolding_all rfl) ⟨rfl, by decide +kernel, by decide +kernel, by decide +kernel, by decide +kernel⟩ .nil rfl .nil) pa_nil)))
        (pa_cons (pe_call G hr rfl mF F.kp bG .nil pass0 (pa_cons (pe_ix ix_tup (pv 0) pe_int (fun _ _ => rfl)) (pa_cons
          (pe_comp (cl := []) (ys := []) (is := []) rfl (pi_list (pv 1)) (fun C s' H' fp => pe_ix (ix_tupK (K := K) rfl) (pv 0) pe_int (fun _ _ => rfl)) (by with_unfolding_all rfl) ⟨rfl, by decide +kernel, by decide +kernel, by decide +kernel, by decide +kernel⟩ .nil rfl .nil) pa_nil))) pa_nil))))) pss_nil)
    (pss_cons (ps_if (pt_cmpR op_eq (pe_ix ix_tup (pv 0) pe_int (fun _ _ => rfl)) pe_str (nomark _))
      (pss_cons (ps_set (i := 2) scF.nd rfl (Or.inl rfl) (pe_lst pa_nil))
      (pss_cons (ps_for PassesOwn.never rfl (pi_list (pv 1)) (pg_name (i := 3) scF.nd rfl (Or.inl rfl)) (pss_one (ps_expr (pe_bm PySem.F.plainAttrs_list PySem.F.slot_list_extend PySem.F.type_list_extend mt_extend (pv 2) (pa_cons (pv 3) pa_nil)))))
      (pss_one (ps_ret (pe_tup (pa_cons (pe_comp (cl := []) (ys := []) (is := []) rfl (pi_list (pv 1)) (fun C s' H' fp => pe_callB (call_lenK (K := K) rfl) rfl T.len PySem.boot_len (pa_cons (pv 0) pa_nil)) (by with_unfolding_all rfl) ⟨rfl, by decide +kernel, by decide +kernel, by decide +kernel, by decide +kernel⟩ .nil rfl .nil)
        (pa_cons (pe_call G hr rfl mF F.kp bG .nil pass0 (pa_cons (pe_ix ix_tup (pv 0) pe_int (fun _ _ => rfl)) (pa_cons (pv 2) pa_nil))) pa_nil))))))) pss_nil)
    (pss_one (ps_ret (pe_callTy call_list_of rfl T.list PyProof.Rows.boot_list (pa_cons (pv 1) pa_nil))))), ?_⟩
  cases k with
  | num =>
    obtain ⟨a, vs, rfl, hS, v0, vr, rfl, rfl, hR⟩ := hk
    refine ⟨_, rfl, a, _, 0, _, rfl, rfl, hS, at0, rfl, _, rfl, ifN (by decide +kernel) ?_⟩
    refine ⟨_, rfl, a, _, 0, _, rfl, rfl, hS, at0, rfl, _, rfl, ifN (by decide +kernel) ?_⟩
    refine ⟨_, rfl, wa, ws, rfl, .inl (SqL.of hw), fun l hl => q _ _ (same_upd hl _) ⟨l, ws, rfl, ⟨upd_same, hl⟩, leaves hL fun t ht => .inl (hok t ht)⟩⟩
  | truth =>
    obtain ⟨a, vs, rfl, hS, v0, vr, rfl, rfl, hR⟩ := hk
    refine ⟨_, rfl, a, _, 0, _, rfl, rfl, hS, at0, rfl, _, rfl, ifN (by decide +kernel) ?_⟩
    refine ⟨_, rfl, a, _, 0, _, rfl, rfl, hS, at0, rfl, _, rfl, ifN (by decide +kernel) ?_⟩
    refine ⟨_, rfl, wa, ws, rfl, .inl (SqL.of hw), fun l hl => q _ _ (same_upd hl _) ⟨l, ws, rfl, ⟨upd_same, hl⟩, leaves hL fun t ht => .inr (hok t ht)⟩⟩
  | pair ka kb =>
    obtain ⟨a, vs, rfl, hS, v0, vr, rfl, rfl, v1, vr1, rfl, h1, v2, vr2, rfl, h2, hR⟩ := hk
    have hd' : max ka.deep kb.deep + 1 < n + 1 := hd
    refine ⟨_, rfl, a, _, 0, _, rfl, rfl, hS, at0, rfl, _, rfl, ifS rfl ?_⟩
    refine ⟨_, rfl, a, _, 1, v1, rfl, rfl, hS, at1, _, rfl, wa, rfl, ⟨_, SqL.of hw⟩, ?_⟩
    refine comp_list (K := K) (a := wa) (xs := ws) (fun i ys H2 => Same H H2 ∧ i ≤ ts.length ∧ HasL K H2 ((ts.take i).map fst) ys) ⟨Same.refl _, Nat.zero_le _, HasL.nil⟩ (fun i ys H2 _ h2 => SqL.of (h2.1 _ _ hw)) (fun i ys H2 h2 => by rw [h2.2.2.length, List.length_map, List.length_take]; omega) (ltK hlw) ?_ ?_
    · rintro i x ys H2 Q2 hx ⟨s2, hi, hy⟩ k
      obtain ⟨t, e1, e2⟩ := hL.get' hx
      obtain ⟨t0, t1, rfl, _, _⟩ := ofK_pair (hok t (List.mem_of_getElem? e1))
      obtain ⟨tx, xs, rfl, hT, x0, r0, rfl, g0, x1, r1, rfl, g1, g2⟩ := e2
      refine ⟨_, rfl, tx, _, 0, x0, rfl, rfl, Same.sqt s2 hT, at0, k _ _ ⟨s2, (List.getElem?_eq_some_iff.mp e1).1, ?_⟩⟩
      rw [take_map fst e1]
      exact hy.append (HasL.cons (g0.mono s2) HasL.nil)
    rintro ys H2 ⟨s2, _, hy⟩ p2 hp2
    rw [hL.length, List.take_length] at hy
    have s2' := s2.trans (same_upd hp2 (.lst ys))
    refine ⟨v1, p2, ka, ts.map fst, ys, rfl, h1.mono s2', by omega, upd_same, hy.mono (same_upd hp2 _), fun t ht => ?_, Nat.le_trans (nodL_map nod_fst ts) hn, fun r1 H3 s3 f3 => ?_⟩
    · obtain ⟨t', h', rfl⟩ := List.mem_map.mp ht
      obtain ⟨x, y, rfl, hx, _⟩ := ofK_pair (hok t' h')
      exact hx
    have S3 := s2'.trans s3
    refine ⟨_, rfl, a, _, 2, v2, rfl, rfl, Same.sqt S3 hS, at2, _, rfl, wa, rfl, ⟨_, SqL.of (S3 _ _ hw)⟩, ?_⟩
    refine comp_list (K := K) (a := wa) (xs := ws) (fun i ys H2 => Same H3 H2 ∧ i ≤ ts.length ∧ HasL K H2 ((ts.take i).map snd) ys) ⟨Same.refl _, Nat.zero_le _, HasL.nil⟩ (fun i ys H2 _ h2 => SqL.of (h2.1 _ _ (S3 _ _ hw))) (fun i ys H2 h2 => by rw [h2.2.2.length, List.length_map, List.length_take]; omega) (ltK hlw) ?_ ?_
    · rintro i x ys H4 Q2 hx ⟨s4, hi, hy⟩ k
      obtain ⟨t, e1, e2⟩ := hL.get' hx
      obtain ⟨t0, t1, rfl, _, _⟩ := ofK_pair (hok t (List.mem_of_getElem? e1))
      obtain ⟨tx, xs, rfl, hT, x0, r0, rfl, g0, x1, r1, rfl, g1, g2⟩ := e2
      refine ⟨_, rfl, tx, _, 1, x1, rfl, rfl, Same.sqt (S3.trans s4) hT, at1, k _ _ ⟨s4, (List.getElem?_eq_some_iff.mp e1).1, ?_⟩⟩
      rw [take_map snd e1]
      exact hy.append (HasL.cons (g1.mono (S3.trans s4)) HasL.nil)
    rintro ys4 H4 ⟨s4, _, hy4⟩ p4 hp4
    rw [hL.length, List.take_length] at hy4
    have s4' := s4.trans (same_upd hp4 (.lst ys4))
    refine ⟨v2, p4, kb, ts.map snd, ys4, rfl, h2.mono (S3.trans s4'), by omega, upd_same, hy4.mono (same_upd hp4 _), fun t ht => ?_, Nat.le_trans (nodL_map nod_snd ts) hn, fun r2 H5 s5 f5 => ?_⟩
    · obtain ⟨t', h', rfl⟩ := List.mem_map.mp ht
      obtain ⟨x, y, rfl, _, hy⟩ := ofK_pair (hok t' h')
      exact hy
    have S5 := S3.trans (s4'.trans s5)
    refine ⟨le2, fun p6 hp6 => q _ _ (S5.trans (same_upd hp6 _)) ⟨p6, _, rfl, SqTF.of upd_same (none_back S5 hp6), HasFL.cons ?_ (HasFL.cons ?_ HasFL.nil)⟩⟩
    · exact (f3.mono (s4'.trans (s5.trans (same_upd hp6 _)))).weak fun b hb => none_back s2' hb
    · exact (f5.mono (same_upd hp6 _)).weak fun b hb => none_back (S3.trans s4') hb
  | row ka =>
    obtain ⟨a, vs, rfl, hS, v0, vr, rfl, rfl, v1, vr1, rfl, h1, hR⟩ := hk
    have hd' : ka.deep + 1 < n + 1 := hd
    refine ⟨_, rfl, a, _, 0, _, rfl, rfl, hS, at0, rfl, _, rfl, ifN (by decide +kernel) ?_⟩
    refine ⟨_, rfl, a, _, 0, _, rfl, rfl, hS, at0, rfl, _, rfl, ifS rfl ?_⟩
    refine ⟨Nat.zero_le _, fun th hth => ?_⟩
    have s0 : Same H (upd H th (.lst [])) := same_upd hth _
    refine ⟨_, rfl, wa, rfl, ⟨_, SqL.of (s0 _ _ hw)⟩, ?_⟩
    refine for_list (K := K) (a := wa) (xs := ws) (fun i σ H2 => (∃ o, σ = [some (.ref a), some (.ref wa), some (.ref th), o]) ∧ i ≤ ts.length ∧ Same H H2 ∧ ∃ ys, H2 th = some (.lst ys) ∧ HasL K H ((ts.take i).flatMap kids) ys) ⟨⟨_, rfl⟩, Nat.zero_le _, s0, [], upd_same, HasL.nil⟩ (fun i σ H2 _ h2 => SqL.of (h2.2.2.1 _ _ hw)) ?_ ?_
    · rintro i x σ H2 hx ⟨⟨o, rfl⟩, hi, s2, ys, hy, hyL⟩
      obtain ⟨t, e1, e2⟩ := hL.get' hx
      obtain ⟨us, rfl, hul, hu⟩ := ofK_row (hok t (List.mem_of_getElem? e1))
      obtain ⟨bx, xs, rfl, hB, g1⟩ := e2
      have hfl : ((ts.take (i + 1)).flatMap kids) = (ts.take i).flatMap kids ++ us := by
        rw [List.take_add_one, e1, List.flatMap_append]
        show _ ++ (us ++ []) = _
        rw [List.append_nil]
      have hlen : ys.length + xs.length ≤ 1000000 := by
        have h3 := hyL.append g1
        rw [← hfl] at h3
        have h4 := h3.length
        rw [List.length_append] at h4
        have h5 := nodL_len ((ts.take (i + 1)).flatMap kids)
        have h6 := nodL_flat (ts.take (i + 1))
        have h7 := nodL_take ts (i + 1)
        omega
      refine ⟨_, rfl, .inl ⟨rfl, _, SqL.of hy⟩, _, rfl, th, bx, ys, xs, rfl, rfl, hy, s2 _ _ hB, leK hlen, ?_⟩
      refine ⟨⟨_, rfl⟩, (List.getElem?_eq_some_iff.mp e1).1, Same.own s2 hth _, _, upd_same, ?_⟩
      rw [hfl]
      exact hyL.append g1
    rintro σ H2 ⟨⟨o, rfl⟩, _, s2, ys, hy, hyL⟩
    rw [hL.length, List.take_length] at hyL
    refine ⟨_, rfl, wa, rfl, ⟨_, SqL.of (s2 _ _ hw)⟩, ?_⟩
    refine comp_list (K := K) (a := wa) (xs := ws) (fun i zs H3 => Same H2 H3 ∧ i ≤ ts.length ∧ HasL K H3 ((ts.take i).map lenT) zs) ⟨Same.refl _, Nat.zero_le _, HasL.nil⟩ (fun i ys H3 _ h3 => SqL.of (h3.1 _ _ (s2 _ _ hw))) (fun i ys H3 h3 => by rw [h3.2.2.length, List.length_map, List.length_take]; omega) (ltK hlw) ?_ ?_
    · rintro i x zs H3 Q2 hx ⟨s3, hi, hz⟩ k
      obtain ⟨t, e1, e2⟩ := hL.get' hx
      obtain ⟨us, rfl, hul, hu⟩ := ofK_row (hok t (List.mem_of_getElem? e1))
      obtain ⟨bx, xs, rfl, hB, g1⟩ := e2
      refine ⟨_, rfl, bx, xs, rfl, .inl (SqL.of ((s2.trans s3) _ _ hB)), k _ _ ⟨s3, (List.getElem?_eq_some_iff.mp e1).1, ?_⟩⟩
      rw [take_map lenT e1]
      refine hz.append (HasL.cons ?_ HasL.nil)
      show V.int (xs.length : Int) = V.int (us.length : Int)
      rw [g1.length]
    rintro zs H3 ⟨s3, _, hz⟩ p3 hp3
    rw [hL.length, List.take_length] at hz
    have s3' := s3.trans (same_upd hp3 (.lst zs))
    have S3 := s2.trans s3'
    refine ⟨_, rfl, a, _, 1, v1, rfl, rfl, Same.sqt S3 hS, at1, _, rfl, v1, th, ka, ts.flatMap kids, ys, rfl, h1.mono S3, by omega, s3' _ _ hy, hyL.mono S3, fun t ht => ?_, Nat.le_trans (nodL_flat ts) hn, fun r4 H4 s4 f4 => ?_⟩
    · obtain ⟨t', h', h2⟩ := List.mem_flatMap.mp ht
      obtain ⟨us, rfl, _, hu⟩ := ofK_row (hok t' h')
      exact hu t h2
    refine ⟨le2, fun p5 hp5 => q _ _ (S3.trans (s4.trans (same_upd hp5 _))) ⟨p5, _, rfl, SqTF.of upd_same (none_back (S3.trans s4) hp5), HasFL.cons ?_ (HasFL.cons ?_ HasFL.nil)⟩⟩
    · refine ⟨p3, zs, rfl, ⟨(s4.trans (same_upd hp5 _)) _ _ upd_same, none_back (s2.trans s3) hp3⟩, ?_⟩
      exact lens_F hz
    · exact (f4.mono (same_upd hp5 _)).weak fun b hb => none_back S3 hb
theorem all_flat (F : Fun K "flat_of" "flat_of" sFlat f fd) (bG : Binds K fd ["kind", "worths"] []) (T : Txt mg) (mF : mg "flat_of" = some (.ref f)) : ∀ n, FnOk P w K mg base CX0 n f fd ["kind", "worths"] (spFlat K n)
  | 0 => ⟨fun vs H Q E h => by obtain ⟨_, _, _, _, _, _, _, hd, _⟩ := h; omega, fun A outer s H args us vs Q E _ _ _ _ h => by obtain ⟨_, _, _, _, _, _, _, hd, _⟩ := h; omega⟩
  | n + 1 => ok_flat F (all_flat F bG T mF n) bG T mF
end
/-! ### many_in -/
def spMany (K : PySem.W.Frag) (n : Nat) : Sp := fun vs H Q _ => ∃ (kv fv : V) (k : Kd) (ts : List Th), vs = [kv, fv] ∧ Has K H k.th kv ∧ k.deep < n ∧ Has K H (flatT k ts) fv ∧ ∀ H', Same H H' → Q (.int (ts.length : Int)) H'
section
variable {P : Program} {w : World} {K : PySem.W.Frag} {mg : Str → Option Value} {base : Heap} {f : Addr} {fd : FuncData}
theorem scM : FnScope ["kind", "flat"] ["kind", "flat"] (defScope sMany) := ⟨rfl, rfl, rfl, by decide +kernel, rfl, by decide +kernel, by decide +kernel⟩
theorem ok_many {n : Nat} (F : Fun K "many_in" "many_in" sMany f fd) (G : FnOk P w K mg base CX0 n f fd ["kind", "flat"] (spMany K n)) (bG : Binds K fd ["kind", "flat"] []) (T : Txt mg) (mF : mg "many_in" = some (.ref f)) :
    FnOk P w K mg base CX0 (n + 1) f fd ["kind", "flat"] (spMany K (n + 1)) := by
  refine F.ok scM (fun vs H Q E h => ?_) (fun cdv A outer s H vs Q E hr h => ?_)
  · obtain ⟨kv, fv, k, ts, rfl, _⟩ := h
    rfl
  obtain ⟨kv, fv, k, ts, rfl, hk, hd, hf, q⟩ := h
  refine ⟨_, pss_cons (ps_if (pt_cmpR op_eq (pe_ix ix_tup (pv 0) pe_int (fun _ _ => rfl)) pe_str (nomark _)) (pss_one (ps_ret (pe_call G hr rfl mF F.kp bG .nil pass0 (pa_cons (pe_ix ix_tup (pv 0) pe_int (fun _ _ => rfl)) (pa_cons (pe_ix ix_tup (pv 1) pe_int (fun _ _ => rfl)) pa_nil))))) pss_nil)
    (pss_one (ps_ret (pe_ifExp (pt_cmpR op_eq (pe_ix ix_tup (pv 0) pe_int (fun _ _ => rfl)) pe_str (nomark _)) (pe_callB call_len_seq rfl T.len PySem.boot_len (pa_cons (pe_ix ix_tup (pv 1) pe_int (fun _ _ => rfl)) pa_nil)) (pe_callB call_len_seq rfl T.len PySem.boot_len (pa_cons (pv 1) pa_nil))))), ?_⟩
  cases k with
  | num | truth =>
    obtain ⟨a, vs, rfl, hS, v0, vr, rfl, rfl, hR⟩ := hk
    obtain ⟨fa, ws, rfl, hF, hL⟩ := hf
    refine ⟨_, rfl, a, _, 0, _, rfl, rfl, hS, at0, rfl, _, rfl, ifN (by decide +kernel) ?_⟩
    refine ⟨_, rfl, a, _, 0, _, rfl, rfl, hS, at0, rfl, _, rfl, ifN (by decide +kernel) ?_⟩
    refine ⟨_, rfl, fa, ws, rfl, .inl (SqL.of hF), ?_⟩
    rw [hL.length]
    exact q H (Same.refl H)
  | pair ka kb =>
    obtain ⟨a, vs, rfl, hS, v0, vr, rfl, rfl, v1, vr1, rfl, h1, v2, vr2, rfl, h2, hR⟩ := hk
    obtain ⟨fa, ws, rfl, hF, f0, fr, rfl, g0, f1, fr1, rfl, g1, _⟩ := hf
    have hd' : max ka.deep kb.deep + 1 < n + 1 := hd
    refine ⟨_, rfl, a, _, 0, _, rfl, rfl, hS, at0, rfl, _, rfl, ifS rfl ?_⟩
    refine ⟨_, rfl, a, _, 1, v1, rfl, rfl, hS, at1, _, rfl, fa, _, 0, f0, rfl, rfl, hF, at0, v1, f0, ka, ts.map fst, rfl, h1, by omega, g0, fun H' s' => ?_⟩
    rw [List.length_map]
    exact q H' s'
  | row ka =>
    obtain ⟨a, vs, rfl, hS, v0, vr, rfl, rfl, v1, vr1, rfl, h1, hR⟩ := hk
    obtain ⟨fa, ws, rfl, hF, f0, fr, rfl, ⟨la, ls, rfl, hl, hL⟩, _⟩ := hf
    refine ⟨_, rfl, a, _, 0, _, rfl, rfl, hS, at0, rfl, _, rfl, ifN (by decide +kernel) ?_⟩
    refine ⟨_, rfl, a, _, 0, _, rfl, rfl, hS, at0, rfl, _, rfl, ifS rfl ?_⟩
    refine ⟨_, rfl, fa, _, 0, _, rfl, rfl, hF, at0, la, ls, rfl, .inl (SqL.of hl), ?_⟩
    rw [hL.length, List.length_map]
    exact q H (Same.refl H)
theorem all_many (F : Fun K "many_in" "many_in" sMany f fd) (bG : Binds K fd ["kind", "flat"] []) (T : Txt mg) (mF : mg "many_in" = some (.ref f)) : ∀ n, FnOk P w K mg base CX0 n f fd ["kind", "flat"] (spMany K n)
  | 0 => ⟨fun vs H Q E h => by obtain ⟨_, _, _, _, _, _, hd, _⟩ := h; omega, fun A outer s H args us vs Q E _ _ _ _ h => by obtain ⟨_, _, _, _, _, _, hd, _⟩ := h; omega⟩
  | n + 1 => ok_many F (all_many F bG T mF n) bG T mF
end
/-! ### _law_kind, _law_worth: what is drawn -/
def kb : Nat → Nat
  | 0 => 0
  | l + 1 => 1 + 2 * kb l
def wd : Nat → Nat
  | 0 => 5
  | d + 1 => 3 + 200 * wd d
def wb : Nat → Nat
  | 0 => 1
  | d + 1 => 201 + 3 * wb d
theorem wd_mono {a b : Nat} (h : a ≤ b) : wd a ≤ wd b := by
  induction b with
  | zero =>
    have : a = 0 := by omega
    rw [this]; exact Nat.le_refl _
  | succ b ih =>
    by_cases e : a = b + 1
    · rw [e]; exact Nat.le_refl _
    · have := ih (by omega)
      show wd a ≤ 3 + 200 * wd b
      omega
theorem wb_mono {a b : Nat} (h : a ≤ b) : wb a ≤ wb b := by
  induction b with
  | zero =>
    have : a = 0 := by omega
    rw [this]; exact Nat.le_refl _
  | succ b ih =>
    by_cases e : a = b + 1
    · rw [e]; exact Nat.le_refl _
    · have := ih (by omega)
      show wb a ≤ 201 + 3 * wb b
      omega
theorem kb_mono {a b : Nat} (h : a ≤ b) : kb a ≤ kb b := by
  induction b with
  | zero =>
    have : a = 0 := by omega
    rw [this]; exact Nat.le_refl _
  | succ b ih =>
    by_cases e : a = b + 1
    · rw [e]; exact Nat.le_refl _
    · have := ih (by omega)
      show kb a ≤ 1 + 2 * kb b
      omega
/-- a thing none of whose objects is the one at a -/
abbrev HasN (K : PySem.W.Frag) (H : Hp) (a : Addr) (t : Th) (v : V) : Prop := HasF K H (fun b => b ≠ a) t v
theorem HasN.sb {K : PySem.W.Frag} {H H' : Hp} {a : Addr} {t : Th} {v : V} (s : SB a H H') (h : HasN K H a t v) : HasN K H' a t v := HasF.move (fun b o n q => s b o n q) (fun _ n => n) h
theorem HasNL.sb {K : PySem.W.Frag} {H H' : Hp} {a : Addr} {ts : List Th} {vs : List V} (s : SB a H H') (h : HasFL K H (fun b => b ≠ a) ts vs) : HasFL K H' (fun b => b ≠ a) ts vs := HasFL.move (fun b o n q => s b o n q) (fun _ n => n) h
theorem SqTF.sb {K : PySem.W.Frag} {H H' : Hp} {a p : Addr} {vs : List V} (s : SB a H H') (h : SqTF K H (fun b => b ≠ a) p vs) : SqTF K H' (fun b => b ≠ a) p vs := SqTF.move h (fun b o n q => s b o n q) fun _ n => n
def spKind (K : PySem.W.Frag) (n : Nat) : Sp := fun vs H Q _ => ∃ (a : Addr) (l N : Nat), vs = [.ref a, .int (l : Int)] ∧ 1 ≤ l ∧ l ≤ n ∧ Tape H a N ∧ N + kb l < 1000000000000000000 ∧
  ∀ (k : Kd) (v : V) H', SB a H H' → Tape H' a (N + kb l) → HasN K H' a k.th v → k.deep < l → Q v H'
def spWorth (K : PySem.W.Frag) (n : Nat) : Sp := fun vs H Q _ => ∃ (a : Addr) (kv : V) (lg : Bool) (k : Kd) (N : Nat), vs = [.ref a, kv, .bl lg] ∧ HasN K H a k.th kv ∧ k.deep < n ∧ Tape H a N ∧ N + wd k.deep < 1000000000000000000 ∧
  ∀ (t : Th) (v : V) H', SB a H H' → Tape H' a (N + wd k.deep) → HasN K H' a t v → OfK k t → nod t ≤ wb k.deep → Q v H'
section
variable {P : Program} {w : World} {K : PySem.W.Frag} {mg : Str → Option Value} {base : Heap} {f : Addr} {fd : FuncData}
theorem scK : FnScope ["tape", "left", "way", "one"] ["tape", "left"] (defScope sKind) := ⟨rfl, rfl, rfl, by decide +kernel, rfl, by decide +kernel, by decide +kernel⟩
theorem ok_kind {n : Nat} {g : Addr} {gd : FuncData} (F : Fun K "_law_kind" "_law_kind" sKind f fd) (G : FnOk P w K mg base CX0 (n + 2) f fd ["tape", "left"] (spKind K n)) (bG : Binds K fd ["tape", "left"] []) (mF : mg "_law_kind" = some (.ref f))
    (D : FnOk P w K mg base CX0 2 g gd ["tape", "many"] spDraw) (bD : Binds K gd ["tape", "many"] []) (kD : PySem.W.keepIn K (.ref g) = true) (mD : mg "_law_draw" = some (.ref g)) :
    FnOk P w K mg base CX0 (n + 3) f fd ["tape", "left"] (spKind K (n + 1)) := by
  refine F.ok scK (fun vs H Q E h => ?_) (fun cdv A outer s H vs Q E hr h => ?_)
  · obtain ⟨a, l, N, rfl, _⟩ := h
    rfl
  obtain ⟨a, l, N, rfl, h1, hl, tp, hN, q⟩ := h
  have hr2 : Room 2 _ := hr.mono (by omega)
  refine ⟨_, pss_cons (ps_set (i := 2) scK.nd rfl (Or.inl rfl) (pe_call D hr2 rfl mD kD bD .nil pass0 (pa_cons (pv 0) (pa_cons pe_int pa_nil))))
    (pss_cons (ps_if (PW.pt (pw_or (pt_cmpR op_eq (pv 1) pe_int (nomark _)) (pw_or1 (pt_cmpR op_lt (pv 2) pe_int (nomark _)))))
      (pss_one (ps_ret (pe_ix ix_list (pe_lst (pa_cons (pe_tup (pa_cons pe_str pa_nil)) (pa_cons (pe_tup (pa_cons pe_str pa_nil)) pa_nil))) (pe_op op_mod (pv 2) pe_int) (fun _ _ => rfl)))) pss_nil)
    (pss_cons (ps_if (pt_cmpR op_lt (pv 2) pe_int (nomark _))
      (pss_cons (ps_set (i := 3) scK.nd rfl (Or.inl rfl) (pe_call G hr rfl mF F.kp bG .nil pass0 (pa_cons (pv 0) (pa_cons (pe_op op_sub (pv 1) pe_int) pa_nil))))
      (pss_one (ps_ret (pe_tup (pa_cons pe_str (pa_cons (pv 3) (pa_cons (pe_call G hr rfl mF F.kp bG .nil pass0 (pa_cons (pv 0) (pa_cons (pe_op op_sub (pv 1) pe_int) pa_nil))) pa_nil))))))) pss_nil)
    (pss_one (ps_ret (pe_tup (pa_cons pe_str (pa_cons (pe_call G hr rfl mF F.kp bG .nil pass0 (pa_cons (pv 0) (pa_cons (pe_op op_sub (pv 1) pe_int) pa_nil))) pa_nil))))))), ?_⟩
  obtain ⟨l, rfl⟩ : ∃ l', l = l' + 1 := ⟨l - 1, by omega⟩
  have ekb : kb (l + 1) = 1 + 2 * kb l := rfl
  refine ⟨_, rfl, a, 6, N, rfl, ⟨by decide, by decide⟩, tp, by omega, fun r H1 r0 r6 s1 t1 => ?_⟩
  refine ⟨_, rfl, rfl, _, rfl, ite2 (fun c0 => iteT ?b1) (fun c0 => ⟨_, rfl, _, _, rfl, rfl, _, rfl, ite2 (fun c1 => ?b2) (fun c1 => ?rest)⟩)⟩
  case b1 | b2 =>
    refine ⟨le1, fun p1 g1 => ⟨le1, fun p2 g2 => ⟨le2, fun p3 g3 => ?_⟩⟩⟩
    have u1 := same_upd g1 (.tup [V.str "num"])
    have u2 := same_upd g2 (.tup [V.str "truth"])
    have u3 := same_upd g3 (.lst [V.ref p1, V.ref p2])
    have n1 : p1 ≠ a := fun e => t1.there (e ▸ g1)
    have n2 : p2 ≠ a := fun e => (t1.same u1).there (e ▸ g2)
    have hz : r % 2 = 0 ∨ r % 2 = 1 := by omega
    rcases hz with hz | hz
    · refine ⟨_, rfl, _, _, rfl, rfl, (by show (0 : Int) < 2; decide), p3, _, r % 2, .ref p1, rfl, rfl, SqL.of upd_same, by rw [hz]; exact at0, ?_⟩
      exact q .num (.ref p1) _ (s1.trans (SB.same (u1.trans (u2.trans u3)))) ((t1.same (u1.trans (u2.trans u3))).le (by omega)) ⟨p1, _, rfl, SqTF.of (u3 _ _ (u2 _ _ upd_same)) n1, HasFL.cons rfl HasFL.nil⟩ (Nat.succ_pos _)
    · refine ⟨_, rfl, _, _, rfl, rfl, (by show (0 : Int) < 2; decide), p3, _, r % 2, .ref p2, rfl, rfl, SqL.of upd_same, by rw [hz]; exact at1, ?_⟩
      exact q .truth (.ref p2) _ (s1.trans (SB.same (u1.trans (u2.trans u3)))) ((t1.same (u1.trans (u2.trans u3))).le (by omega)) ⟨p2, _, rfl, SqTF.of (u3 _ _ upd_same) n2, HasFL.cons rfl HasFL.nil⟩ (Nat.succ_pos _)
  have hl0 : l ≠ 0 := fun e => c0 (by subst e; exact decide_eq_true rfl)
  have e1 : ((l + 1 : Nat) : Int) - 1 = (l : Int) := by omega
  refine ⟨_, rfl, _, _, rfl, rfl, _, rfl, ite2 (fun c2 => ?_) (fun c2 => ?_)⟩
  · refine ⟨_, rfl, _, rfl, _, _, rfl, rfl, a, l, N + 1, by show [V.ref a, V.int (((l + 1 : Nat) : Int) - 1)] ++ [] = _; rw [e1]; rfl, by omega, by omega, t1, by omega, fun k1 v1 H2 s2 t2 g2 d2 => ?_⟩
    refine ⟨_, rfl, _, rfl, _, rfl, _, _, rfl, rfl, a, l, N + 1 + kb l, by show [V.ref a, V.int (((l + 1 : Nat) : Int) - 1)] ++ [] = _; rw [e1]; rfl, by omega, by omega, t2, by omega, fun k2 v2 H3 s3 t3 g3 d3 => ?_⟩
    refine ⟨by show 3 ≤ sizeLine; decide, fun p hp => ?_⟩
    have u := same_upd hp (.tup [V.str "pair", v1, v2])
    have np : p ≠ a := fun e => t3.there (e ▸ hp)
    exact q (.pair k1 k2) (.ref p) _ (s1.trans (s2.trans (s3.trans (SB.same u)))) ((t3.same u).le (by omega)) ⟨p, _, rfl, SqTF.of upd_same np, HasFL.cons rfl (HasFL.cons ((g2.sb s3).mono u) (HasFL.cons (g3.mono u) HasFL.nil))⟩ (by show max k1.deep k2.deep + 1 < l + 1; omega)
  · refine ⟨_, rfl, _, rfl, _, _, rfl, rfl, a, l, N + 1, by show [V.ref a, V.int (((l + 1 : Nat) : Int) - 1)] ++ [] = _; rw [e1]; rfl, by omega, by omega, t1, by omega, fun k1 v1 H2 s2 t2 g2 d2 => ?_⟩
    refine ⟨le2, fun p hp => ?_⟩
    have u := same_upd hp (.tup [V.str "row", v1])
    have np : p ≠ a := fun e => t2.there (e ▸ hp)
    exact q (.row k1) (.ref p) _ (s1.trans (s2.trans (SB.same u))) ((t2.same u).le (by omega)) ⟨p, _, rfl, SqTF.of upd_same np, HasFL.cons rfl (HasFL.cons (g2.mono u) HasFL.nil)⟩ (by show k1.deep + 1 < l + 1; omega)
theorem all_kind {g : Addr} {gd : FuncData} (F : Fun K "_law_kind" "_law_kind" sKind f fd) (bG : Binds K fd ["tape", "left"] []) (mF : mg "_law_kind" = some (.ref f))
    (D : FnOk P w K mg base CX0 2 g gd ["tape", "many"] spDraw) (bD : Binds K gd ["tape", "many"] []) (kD : PySem.W.keepIn K (.ref g) = true) (mD : mg "_law_draw" = some (.ref g)) : ∀ n, FnOk P w K mg base CX0 (n + 2) f fd ["tape", "left"] (spKind K n)
  | 0 => ⟨fun vs H Q E h => by obtain ⟨_, _, _, _, h1, h2, _⟩ := h; omega, fun A outer s H args us vs Q E _ _ _ _ h => by obtain ⟨_, _, _, _, h1, h2, _⟩ := h; omega⟩
  | n + 1 => ok_kind F (all_kind F bG mF D bD kD mD n) bG mF D bD kD mD
end
/-- a weaker reading of the same expression -/
theorem pe_weak {X : Cx} {e : Expr} {t t' : TE} (h : PE X e t) (hw : ∀ σ H Q, t' σ H Q → t σ H Q) : PE X e t' := fun pins s σ H Q I q => h pins s σ H Q I (hw σ H Q q)
def klen : Kd → Nat
  | .num => 1
  | .truth => 1
  | .pair _ _ => 3
  | .row _ => 2
theorem klen_leaf {k : Kd} (h : klen k = 1) : k.deep = 0 := by
  cases k with
  | num => rfl
  | truth => rfl
  | pair _ _ => cases h
  | row _ => cases h
theorem th_ref {K : PySem.W.Frag} {H : Hp} {F : Addr → Prop} {k : Kd} {v : V} (h : HasF K H F k.th v) : ∃ p vs, v = .ref p ∧ SqTF K H F p vs ∧ vs.length = klen k := by
  cases k with
  | num | truth | pair _ _ | row _ =>
    obtain ⟨p, vs, e, hS, hL⟩ := h
    exact ⟨p, vs, e, hS, hL.length⟩
section
variable {P : Program} {w : World} {K : PySem.W.Frag} {mg : Str → Option Value} {base : Heap} {f : Addr} {fd : FuncData}
theorem scW : FnScope ["tape", "kind", "long", "one", "many"] ["tape", "kind", "long"] (defScope sWorth) := ⟨rfl, rfl, rfl, by decide +kernel, rfl, by decide +kernel, by decide +kernel⟩
theorem ok_worth {n : Nat} {g gn : Addr} {gd gnd : FuncData} {dV : Value} (F : FunD K "_law_worth" "_law_worth" sWorth f fd dV) (G : FnOk P w K mg base CX0 (n + 3) f fd ["tape", "kind", "long"] (spWorth K n)) (bG : Binds K fd ["tape", "kind", "long"] []) (T : Txt mg) (mF : mg "_law_worth" = some (.ref f))
    (D : FnOk P w K mg base CX0 2 g gd ["tape", "many"] spDraw) (bD : Binds K gd ["tape", "many"] []) (kD : PySem.W.keepIn K (.ref g) = true) (mD : mg "_law_draw" = some (.ref g))
    (U : FnOk P w K mg base CX0 3 gn gnd ["tape"] spNum) (bU : Binds K gnd ["tape"] []) (kU : PySem.W.keepIn K (.ref gn) = true) (mU : mg "_law_number" = some (.ref gn)) :
    FnOk P w K mg base CX0 (n + 4) f fd ["tape", "kind", "long"] (spWorth K (n + 1)) := by
  refine F.ok scW (fun vs H Q E h => ?_) (fun cdv A outer s H vs Q E hr h => ?_)
  · obtain ⟨a, kv, lg, k, N, rfl, _⟩ := h
    rfl
  obtain ⟨a, kv, lg, k, N, rfl, hk, hd, tp, hN, q⟩ := h
  have hr2 : Room 2 _ := hr.mono (by omega)
  have hr3 : Room 3 _ := hr.mono (by omega)
  cases k with
  | num =>
    refine ⟨_, pss_cons (ps_if (pt_cmpR op_eq (pe_ix ix_tup (pv 1) pe_int (fun _ _ => rfl)) pe_str (nomark _)) (pss_one (ps_ret (pe_call U hr3 rfl mU kU bU .nil pass0 (pa_cons (pv 0) pa_nil)))) pss_nil) pss_never, ?_⟩
    obtain ⟨p, vs, rfl, hS, v0, vr, rfl, rfl, hR⟩ := hk
    refine ⟨_, rfl, p, _, 0, _, rfl, rfl, hS.t, at0, rfl, _, rfl, ifS rfl ?_⟩
    have ewd : wd Kd.num.deep = 5 := rfl
    exact ⟨_, rfl, a, N, rfl, tp, by omega, fun i H' i0 i1 s' t' => q (.int i) _ _ s' t' rfl ⟨i0, i1⟩ (Nat.le_refl _)⟩
  | truth =>
    refine ⟨_, pss_cons (ps_if (pt_cmpR op_eq (pe_ix ix_tup (pv 1) pe_int (fun _ _ => rfl)) pe_str (nomark _)) pss_never pss_nil)
      (pss_cons (ps_if (pt_cmpR op_eq (pe_ix ix_tup (pv 1) pe_int (fun _ _ => rfl)) pe_str (nomark _)) (pss_one (ps_ret (pe_cmpR op_eq (pe_call D hr2 rfl mD kD bD .nil pass0 (pa_cons (pv 0) (pa_cons pe_int pa_nil))) pe_int (nomark _)))) pss_nil) pss_never), ?_⟩
    obtain ⟨p, vs, rfl, hS, v0, vr, rfl, rfl, hR⟩ := hk
    have ewd : wd Kd.truth.deep = 5 := rfl
    refine ⟨_, rfl, p, _, 0, _, rfl, rfl, hS.t, at0, rfl, _, rfl, ifN (by decide +kernel) ?_⟩
    refine ⟨_, rfl, p, _, 0, _, rfl, rfl, hS.t, at0, rfl, _, rfl, ifS rfl ?_⟩
    exact ⟨_, rfl, a, 2, N, rfl, ⟨by decide, by decide⟩, tp, by omega, fun r H' r0 r1 s' t' => ⟨rfl, q (.bl _) _ _ s' (t'.le (by omega)) rfl trivial (Nat.le_refl _)⟩⟩
  | pair ka kb' =>
    refine ⟨_, pss_cons (ps_if (pt_cmpR op_eq (pe_ix ix_tup (pv 1) pe_int (fun _ _ => rfl)) pe_str (nomark _)) pss_never pss_nil)
      (pss_cons (ps_if (pt_cmpR op_eq (pe_ix ix_tup (pv 1) pe_int (fun _ _ => rfl)) pe_str (nomark _)) pss_never pss_nil)
      (pss_cons (ps_if (pt_cmpR op_eq (pe_ix ix_tup (pv 1) pe_int (fun _ _ => rfl)) pe_str (nomark _))
        (pss_cons (ps_set (i := 3) scW.nd rfl (Or.inl rfl) (pe_call G hr rfl mF F.kp bG .nil pass0 (pa_cons (pv 0) (pa_cons (pe_ix ix_tup (pv 1) pe_int (fun _ _ => rfl)) (pa_cons (pv 2) pa_nil)))))
        (pss_one (ps_ret (pe_tup (pa_cons (pv 3) (pa_cons (pe_call G hr rfl mF F.kp bG .nil pass0 (pa_cons (pv 0) (pa_cons (pe_ix ix_tup (pv 1) pe_int (fun _ _ => rfl)) (pa_cons (pv 2) pa_nil)))) pa_nil)))))) pss_nil) pss_never)), ?_⟩
    obtain ⟨p, vs, rfl, hS, v0, vr, rfl, rfl, v1, vr1, rfl, h1, v2, vr2, rfl, h2, hR⟩ := hk
    have hd' : max ka.deep kb'.deep + 1 < n + 1 := hd
    have ewd : wd (Kd.pair ka kb').deep = 3 + 200 * wd (max ka.deep kb'.deep) := rfl
    have ewb : wb (Kd.pair ka kb').deep = 201 + 3 * wb (max ka.deep kb'.deep) := rfl
    have w1 := wd_mono (show ka.deep ≤ max ka.deep kb'.deep by omega)
    have w2 := wd_mono (show kb'.deep ≤ max ka.deep kb'.deep by omega)
    have x1 := wb_mono (show ka.deep ≤ max ka.deep kb'.deep by omega)
    have x2 := wb_mono (show kb'.deep ≤ max ka.deep kb'.deep by omega)
    refine ⟨_, rfl, p, _, 0, _, rfl, rfl, hS.t, at0, rfl, _, rfl, ifN (by decide +kernel) ?_⟩
    refine ⟨_, rfl, p, _, 0, _, rfl, rfl, hS.t, at0, rfl, _, rfl, ifN (by decide +kernel) ?_⟩
    refine ⟨_, rfl, p, _, 0, _, rfl, rfl, hS.t, at0, rfl, _, rfl, ifS rfl ?_⟩
    refine ⟨_, rfl, _, rfl, p, _, 1, v1, rfl, rfl, hS.t, at1, _, rfl, a, v1, lg, ka, N, rfl, h1, by omega, tp, by omega, fun y1 u1 H1 s1 t1 g1 o1 m1 => ?_⟩
    refine ⟨_, rfl, _, rfl, _, rfl, p, _, 2, v2, rfl, rfl, (SqTF.sb s1 hS).t, at2, _, rfl, a, v2, lg, kb', N + wd ka.deep, rfl, HasN.sb s1 h2, by omega, t1, by omega, fun y2 u2 H2 s2 t2 g2 o2 m2 => ?_⟩
    refine ⟨le2, fun p3 hp3 => ?_⟩
    have u := same_upd hp3 (.tup [u1, u2])
    have np : p3 ≠ a := fun e => t2.there (e ▸ hp3)
    refine q (.tup [y1, y2]) _ _ (s1.trans (s2.trans (SB.same u))) ((t2.same u).le (by omega)) ⟨p3, _, rfl, SqTF.of upd_same np, HasFL.cons ((HasN.sb s2 g1).mono u) (HasFL.cons (g2.mono u) HasFL.nil)⟩ ⟨o1, o2⟩ ?_
    show 1 + (nod y1 + (nod y2 + 0)) ≤ _
    omega
  | row ka =>
    obtain ⟨p, vs, rfl, hS, v0, vr, rfl, rfl, v1, vr1, rfl, h1, hR⟩ := hk
    have hd' : ka.deep + 1 < n + 1 := hd
    have ewd : wd (Kd.row ka).deep = 3 + 200 * wd ka.deep := rfl
    have ewb : wb (Kd.row ka).deep = 201 + 3 * wb ka.deep := rfl
    refine ⟨_, pss_cons (ps_if (pt_cmpR op_eq (pe_ix ix_tup (pv 1) pe_int (fun _ _ => rfl)) pe_str (nomark _)) pss_never pss_nil)
      (pss_cons (ps_if (pt_cmpR op_eq (pe_ix ix_tup (pv 1) pe_int (fun _ _ => rfl)) pe_str (nomark _)) pss_never pss_nil)
      (pss_cons (ps_if (pt_cmpR op_eq (pe_ix ix_tup (pv 1) pe_int (fun _ _ => rfl)) pe_str (nomark _)) pss_never pss_nil)
      (pss_cons (ps_set (i := 4) scW.nd rfl (Or.inl rfl) (pe_call D hr2 rfl mD kD bD .nil pass0 (pa_cons (pv 0) (pa_cons pe_int pa_nil))))
      (pss_cons (ps_if (PW.pt (pw_and (pt_val (pv 2)) (pw_and (pt_cmpR op_eq (pe_callB call_len_seq rfl T.len PySem.boot_len (pa_cons (pe_ix ix_tup (pv 1) pe_int (fun _ _ => rfl)) pa_nil)) pe_int (nomark _)) (pw_and1 (pt_cmpR op_eq (pe_call D hr2 rfl mD kD bD .nil pass0 (pa_cons (pv 0) (pa_cons pe_int pa_nil))) pe_int (nomark _))))))
        (pss_one (ps_set (i := 4) scW.nd rfl (Or.inl rfl) (pe_op op_add pe_int (pe_call D hr2 rfl mD kD bD .nil pass0 (pa_cons (pv 0) (pa_cons pe_int pa_nil)))))) pss_nil)
      (pss_one (ps_ret (pe_weak (t' := fun σ H2 Q2 => ∃ (m : Int) (N2 : Nat) (o3 : Option V), σ = [some (.ref a), some (.ref p), some (.bl lg), o3, some (.int m)] ∧ 0 ≤ m ∧ (m ≤ 3 ∨ (klen ka = 1 ∧ m ≤ 200)) ∧ SB a H H2 ∧ Tape H2 a N2 ∧ N2 ≤ N + 3 ∧ ∀ v H', Q v H' → Q2 v H')
        (pe_comp (cl := [("tape", s.heap.objs.size + 1), ("kind", s.heap.objs.size + 2)]) (ys := ["kind", "tape"]) (is := [1, 0]) rfl (pi_range1 rfl T.range (pa_cons (pv 4) pa_nil))
          (fun C s' H' fp => pe_call G hr rfl mF F.kp bG .nil pass0 (pa_cons (pv 2) (pa_cons (pe_ix (ix_tupK (K := K) rfl) (pv 1) pe_int (fun _ _ => rfl)) (pa_cons pe_bl pa_nil)))) (by with_unfolding_all rfl) ⟨rfl, by decide +kernel, by decide +kernel, by decide +kernel, by decide +kernel⟩ (.cons rfl (.cons rfl .nil)) rfl
          (.cons rfl (.inr (.inl rfl)) (.inl rfl) rfl rfl (.inl rfl) (.cons rfl (.inr (.inl rfl)) (.inl rfl) rfl rfl (.inl rfl) .nil))) ?hw))))))), ?_⟩
    case hw =>
      rintro σ H2 Q2 ⟨m, N2, o3, rfl, m0, hm, s2, t2, hN2, k⟩
      have hmw : m ≤ 200 := by omega
      have hS2 := SqTF.sb s2 hS
      have h12 := HasN.sb s2 h1
      refine ⟨_, rfl, m, rfl, by omega, by omega, ?_⟩
      refine comp_range (lo := 0) (n := m.toNat) (fun i ys H3 => SB a H2 H3 ∧ Tape H3 a (N2 + i * wd ka.deep) ∧ ∃ ts, HasFL K H3 (fun b => b ≠ a) ts ys ∧ ts.length = i ∧ ∀ t ∈ ts, OfK ka t ∧ nod t ≤ wb ka.deep) ⟨SB.refl, t2.le (by omega), [], HasFL.nil, rfl, fun _ h => absurd h (by simp)⟩ (fun i ys H3 h3 => ?_) (ltK (by omega)) ?_ ?_
      · obtain ⟨_, _, ts, hL, hl, _⟩ := h3
        rw [hL.length, hl]
      · rintro i ys H3 Q3 hi ⟨s3, t3, ts, hL, hl, ho⟩ k3
        have hi2 : i * wd ka.deep + wd ka.deep ≤ 200 * wd ka.deep := by
          have : (i + 1) * wd ka.deep ≤ 200 * wd ka.deep := Nat.mul_le_mul_right _ (by omega)
          rw [Nat.add_mul, Nat.one_mul] at this
          exact this
        refine ⟨_, rfl, _, rfl, p, _, 1, v1, rfl, rfl, (SqTF.sb s3 hS2).t, at1, a, v1, false, ka, N2 + i * wd ka.deep, rfl, HasN.sb s3 h12, by omega, t3, by omega, fun t v H4 s4 t4 g4 o4 n4 => k3 _ _ ⟨s3.trans s4, t4.le (by rw [Nat.add_mul]; omega), ts ++ [t], (HasNL.sb s4 hL).append (HasFL.cons g4 HasFL.nil), by rw [List.length_append, hl]; rfl, fun u hu => ?_⟩⟩
        rcases List.mem_append.mp hu with h | h
        · exact ho u h
        · rw [List.mem_singleton.mp h]; exact ⟨o4, n4⟩
      rintro ys H3 ⟨s3, t3, ts, hL, hl, ho⟩ p4 hp4
      have u := same_upd hp4 (.lst ys)
      have np : p4 ≠ a := fun e => t3.there (e ▸ hp4)
      have hmul : m.toNat * wd ka.deep ≤ 200 * wd ka.deep := Nat.mul_le_mul_right _ (by omega)
      refine k _ _ (q (.lst ts) _ _ (s2.trans (s3.trans (SB.same u))) ((t3.same u).le (by omega)) ⟨p4, ys, rfl, ⟨upd_same, np⟩, HasFL.mono u hL⟩ ⟨by omega, fun t ht => (ho t ht).1⟩ ?_)
      have hb := nodL_le (B := wb ka.deep) (ts := ts) fun t ht => (ho t ht).2
      show 1 + nodL ts ≤ _
      rcases hm with h3 | ⟨hk1, h200⟩
      · have : ts.length * wb ka.deep ≤ 3 * wb ka.deep := Nat.mul_le_mul_right _ (by omega)
        omega
      · rw [klen_leaf hk1] at hb
        have e1 : wb 0 = 1 := rfl
        rw [e1] at hb
        omega
    refine ⟨_, rfl, p, _, 0, _, rfl, rfl, hS.t, at0, rfl, _, rfl, ifN (by decide +kernel) ?_⟩
    refine ⟨_, rfl, p, _, 0, _, rfl, rfl, hS.t, at0, rfl, _, rfl, ifN (by decide +kernel) ?_⟩
    refine ⟨_, rfl, p, _, 0, _, rfl, rfl, hS.t, at0, rfl, _, rfl, ifN (by decide +kernel) ?_⟩
    refine ⟨_, rfl, a, 4, N, rfl, ⟨by decide, by decide⟩, tp, by omega, fun r H1 r0 r4 s1 t1 => ?_⟩
    refine ⟨_, rfl, _, rfl, ite2 (fun c1 => ?_) (fun c1 => iteF ⟨r, N + 1, none, rfl, r0, .inl (by omega), s1, t1, by omega, fun _ _ h => h⟩)⟩
    obtain ⟨p1, vs1, rfl, hS1, hl1⟩ := th_ref h1
    refine ⟨_, rfl, p, _, 1, _, rfl, rfl, (SqTF.sb s1 hS).t, at1, p1, vs1, rfl, .inr (SqTF.sb s1 hS1).t, rfl, _, rfl, ite2 (fun c2 => ?_) (fun c2 => iteF ⟨r, N + 1, none, rfl, r0, .inl (by omega), s1, t1, by omega, fun _ _ h => h⟩)⟩
    have hk1 : klen ka = 1 := by
      have := V.int.inj (of_decide_eq_true c2)
      omega
    refine ⟨_, rfl, a, 32, N + 1, rfl, ⟨by decide, by decide⟩, t1, by omega, fun r2 H2 r20 r21 s2 t2 => ⟨rfl, _, rfl, ite2 (fun c3 => ?_) (fun c3 => ⟨r, N + 2, none, rfl, r0, .inl (by omega), s1.trans s2, t2, by omega, fun _ _ h => h⟩)⟩⟩
    exact ⟨_, rfl, a, 5, N + 2, rfl, ⟨by decide, by decide⟩, t2, by omega, fun r5 H5 r50 r51 s5 t5 => ⟨_, _, rfl, rfl, 196 + r5, N + 3, none, rfl, by omega, .inr ⟨hk1, by omega⟩, s1.trans (s2.trans s5), t5, by omega, fun _ _ h => h⟩⟩
theorem all_worth {g gn : Addr} {gd gnd : FuncData} {dV : Value} (F : FunD K "_law_worth" "_law_worth" sWorth f fd dV) (bG : Binds K fd ["tape", "kind", "long"] []) (T : Txt mg) (mF : mg "_law_worth" = some (.ref f))
    (D : FnOk P w K mg base CX0 2 g gd ["tape", "many"] spDraw) (bD : Binds K gd ["tape", "many"] []) (kD : PySem.W.keepIn K (.ref g) = true) (mD : mg "_law_draw" = some (.ref g))
    (U : FnOk P w K mg base CX0 3 gn gnd ["tape"] spNum) (bU : Binds K gnd ["tape"] []) (kU : PySem.W.keepIn K (.ref gn) = true) (mU : mg "_law_number" = some (.ref gn)) : ∀ n, FnOk P w K mg base CX0 (n + 3) f fd ["tape", "kind", "long"] (spWorth K n)
  | 0 => ⟨fun vs H Q E h => by obtain ⟨_, _, _, _, _, _, _, hd, _⟩ := h; omega, fun A outer s H args us vs Q E _ _ _ _ h => by obtain ⟨_, _, _, _, _, _, _, hd, _⟩ := h; omega⟩
  | n + 1 => ok_worth F (all_worth F bG T mF D bD kD mD U bU kU mU n) bG T mF D bD kD mD U bU kU mU
end
/-! ### the script, cut -/
theorem cut_ints (ns : List Int) (lo hi : Option Int) : ∃ ms : List Int, cutV (ns.map V.int) lo hi = ms.map V.int ∧ ms.length ≤ ns.length := by
  unfold cutV
  refine ⟨(ns.drop _).take _, by rw [List.map_take, List.map_drop], ?_⟩
  rw [List.length_take, List.length_drop]
  omega
theorem dflt_true : Vals [V.bl true] [Value.bool true] := .cons (show RelV (V.bl true) (Value.bool true) from rfl) .nil
theorem two_of {us : List Value} {d : Value} (h : (us ++ [d]).length = 3) : ∃ a b, us = [a, b] := by
  match us, h with
  | [a, b], _ => exact ⟨a, b, rfl⟩
  | [], h => cases h
  | [_], h => cases h
  | _ :: _ :: _ :: _, h => simp at h
/-! ### things whose lists are all unlike: as the addresses of the lists -/
mutual
def HasA (K : PySem.W.Frag) (H : Hp) : Th → V → List Addr → Prop
  | .non, v, as => v = .non ∧ as = []
  | .bl b, v, as => v = .bl b ∧ as = []
  | .int i, v, as => v = .int i ∧ as = []
  | .str x, v, as => v = .str x ∧ as = []
  | .tup ts, v, as => ∃ a vs, v = .ref a ∧ SqT K H a vs ∧ HasAL K H ts vs as
  | .lst ts, v, as => ∃ a vs bs, v = .ref a ∧ H a = some (.lst vs) ∧ HasAL K H ts vs bs ∧ as = a :: bs
def HasAL (K : PySem.W.Frag) (H : Hp) : List Th → List V → List Addr → Prop
  | [], vs, as => vs = [] ∧ as = []
  | t :: ts, vs, as => ∃ v r b c, vs = v :: r ∧ HasA K H t v b ∧ HasAL K H ts r c ∧ as = b ++ c
end
mutual
theorem HasA.has {K : PySem.W.Frag} {H : Hp} : ∀ {t : Th} {v : V} {as : List Addr}, HasA K H t v as → Has K H t v
  | .non, _, _, h => h.1
  | .bl _, _, _, h => h.1
  | .int _, _, _, h => h.1
  | .str _, _, _, h => h.1
  | .tup _, _, _, ⟨a, vs, e, q, r⟩ => ⟨a, vs, e, q, HasAL.has r⟩
  | .lst _, _, _, ⟨a, vs, _, e, q, r, _⟩ => ⟨a, vs, e, q, HasAL.has r⟩
theorem HasAL.has {K : PySem.W.Frag} {H : Hp} : ∀ {ts : List Th} {vs : List V} {as : List Addr}, HasAL K H ts vs as → HasL K H ts vs
  | [], _, _, h => h.1
  | _ :: _, _, _, ⟨v, r, _, _, e, q, z, _⟩ => ⟨v, r, e, HasA.has q, HasAL.has z⟩
end
mutual
theorem HasA.lists {K : PySem.W.Frag} {H : Hp} : ∀ {t : Th} {v : V} {as : List Addr}, HasA K H t v as → ∀ b ∈ as, ∃ zs, H b = some (.lst zs)
  | .non, _, _, h, b, hb => by rw [h.2] at hb; cases hb
  | .bl _, _, _, h, b, hb => by rw [h.2] at hb; cases hb
  | .int _, _, _, h, b, hb => by rw [h.2] at hb; cases hb
  | .str _, _, _, h, b, hb => by rw [h.2] at hb; cases hb
  | .tup _, _, _, ⟨a, vs, e, q, r⟩, b, hb => HasAL.lists r b hb
  | .lst _, _, _, ⟨a, vs, bs, e, q, r, e2⟩, b, hb => by
    rw [e2] at hb
    rcases List.mem_cons.mp hb with z | z
    · rw [z]; exact ⟨vs, q⟩
    · exact HasAL.lists r b z
theorem HasAL.lists {K : PySem.W.Frag} {H : Hp} : ∀ {ts : List Th} {vs : List V} {as : List Addr}, HasAL K H ts vs as → ∀ b ∈ as, ∃ zs, H b = some (.lst zs)
  | [], _, _, h, b, hb => by rw [h.2] at hb; cases hb
  | _ :: _, _, _, ⟨v, r, b1, c, e, q, z, e2⟩, b, hb => by
    rw [e2] at hb
    rcases List.mem_append.mp hb with y | y
    · exact HasA.lists q b y
    · exact HasAL.lists z b y
end
/-- all that is not at one of these stays -/
def SBs (as : List Addr) (H H' : Hp) : Prop := ∀ b u, b ∉ as → H b = some u → H' b = some u
theorem SBs.trans {as bs : List Addr} {H H' H'' : Hp} (x : SBs as H H') (y : SBs bs H' H'') : SBs (as ++ bs) H H'' := fun b u n q => y b u (fun z => n (List.mem_append_right _ z)) (x b u (fun z => n (List.mem_append_left _ z)) q)
theorem SBs.same {as : List Addr} {H H' : Hp} (s : Same H H') : SBs as H H' := fun b u _ q => s b u q
theorem sqt_kept {K : PySem.W.Frag} {H H' : Hp} {cs : List Addr} {a : Addr} {vs : List V} (s : SBs cs H H') (hc : ∀ b ∈ cs, ∃ zs, H b = some (.lst zs)) (h : SqT K H a vs) : SqT K H' a vs := by
  rcases h with (z | ⟨o, z⟩) | z
  · exact .inl (.inl (s _ _ (fun y => by obtain ⟨zs, e⟩ := hc _ y; rw [z] at e; cases e) z))
  · exact .inl (.inr ⟨o, s _ _ (fun y => by obtain ⟨zs, e⟩ := hc _ y; rw [z] at e; cases e) z⟩)
  · exact .inr z
mutual
theorem HasA.kept {K : PySem.W.Frag} {H H' : Hp} {cs : List Addr} (s : SBs cs H H') (hc : ∀ b ∈ cs, ∃ zs, H b = some (.lst zs)) : ∀ {t : Th} {v : V} {as : List Addr}, HasA K H t v as → (∀ b ∈ as, b ∉ cs) → HasA K H' t v as
  | .non, _, _, h, _ => h
  | .bl _, _, _, h, _ => h
  | .int _, _, _, h, _ => h
  | .str _, _, _, h, _ => h
  | .tup _, _, _, ⟨a, vs, e, q, r⟩, d => ⟨a, vs, e, sqt_kept s hc q, HasAL.kept s hc r d⟩
  | .lst _, _, _, ⟨a, vs, bs, e, q, r, e2⟩, d => ⟨a, vs, bs, e, s _ _ (d a (by rw [e2]; exact List.mem_cons_self)) q, HasAL.kept s hc r fun b hb => d b (by rw [e2]; exact List.mem_cons_of_mem _ hb), e2⟩
theorem HasAL.kept {K : PySem.W.Frag} {H H' : Hp} {cs : List Addr} (s : SBs cs H H') (hc : ∀ b ∈ cs, ∃ zs, H b = some (.lst zs)) : ∀ {ts : List Th} {vs : List V} {as : List Addr}, HasAL K H ts vs as → (∀ b ∈ as, b ∉ cs) → HasAL K H' ts vs as
  | [], _, _, h, _ => h
  | _ :: _, _, _, ⟨v, r, b1, c, e, q, z, e2⟩, d => ⟨v, r, b1, c, e, HasA.kept s hc q fun b hb => d b (by rw [e2]; exact List.mem_append_left _ hb), HasAL.kept s hc z fun b hb => d b (by rw [e2]; exact List.mem_append_right _ hb), e2⟩
end
theorem HasA.mono {K : PySem.W.Frag} {H H' : Hp} (s : Same H H') {t : Th} {v : V} {as : List Addr} (h : HasA K H t v as) : HasA K H' t v as := HasA.kept (cs := []) (SBs.same s) (fun _ z => nomatch z) h fun _ _ z => nomatch z
theorem HasAL.mono {K : PySem.W.Frag} {H H' : Hp} (s : Same H H') {ts : List Th} {vs : List V} {as : List Addr} (h : HasAL K H ts vs as) : HasAL K H' ts vs as := HasAL.kept (cs := []) (SBs.same s) (fun _ z => nomatch z) h fun _ _ z => nomatch z
theorem HasAL.at {K : PySem.W.Frag} {H : Hp} : ∀ {ts : List Th} {vs : List V} {as : List Addr} {x : V} {r : List V}, HasAL K H ts vs as → vs = x :: r → ∃ t us b c, ts = t :: us ∧ HasA K H t x b ∧ HasAL K H us r c ∧ as = b ++ c
  | [], _, _, _, _, h, e => by rw [h.1] at e; cases e
  | t :: us, _, _, _, _, ⟨v, r', b, c, e1, q, z, e2⟩, e => by
    rw [e1] at e
    cases e
    exact ⟨t, us, b, c, rfl, q, z, e2⟩
/-- what a thing is at its top -/
def TopIs (K : PySem.W.Frag) (H : Hp) : Th → V → Prop
  | .tup _, v => ∃ a vs, v = .ref a ∧ SqT K H a vs
  | .lst _, v => ∃ a vs, v = .ref a ∧ SqL K H a vs
  | t, v => Has K H t v
theorem isI_top {X : Cx} {c : String} (hc : c ∈ ["tuple", "str", "bool", "int", "list"]) : CallR X (.builtin "isinstance") (fun xs H Q => ∃ x t, xs = [x, .ty c] ∧ TopIs X.K H t x ∧ Q (.bl (isI c t)) H) := by
  intro pins s σ H xs us Q I r h
  obtain ⟨x, t, rfl, ht, q⟩ := h
  cases t with
  | non => exact isI_call hc pins s σ H _ us Q I r ⟨x, .non, rfl, ht, q⟩
  | bl b => exact isI_call hc pins s σ H _ us Q I r ⟨x, .bl b, rfl, ht, q⟩
  | int i => exact isI_call hc pins s σ H _ us Q I r ⟨x, .int i, rfl, ht, q⟩
  | str z => exact isI_call hc pins s σ H _ us Q I r ⟨x, .str z, rfl, ht, q⟩
  | tup ts =>
    obtain ⟨a, vs, rfl, hS⟩ := ht
    obtain ⟨u, w', rfl, ru, rw'⟩ := vals2 r
    cases rw'; cases ru
    obtain ⟨its, _, ⟨o, h1, h2, _⟩, _⟩ := I.tuple hS
    exact PySem.W.kia_one PySem.W.kitx_tuple I.kIn ⟨o, h1, h2⟩ (kit_type.trans (kit_ty hc (.tup ts))) (fun z => nomatch z) fun tk => ⟨.bl _, H, I.tok tk, rfl, q⟩
  | lst ts =>
    obtain ⟨a, vs, rfl, hS⟩ := ht
    obtain ⟨u, w', rfl, ru, rw'⟩ := vals2 r
    cases rw'; cases ru
    obtain ⟨its, _, ⟨o, n, h1, h2, _⟩, _⟩ := I.list hS
    exact PySem.W.kia_one PySem.W.kitx_list I.kIn ⟨o, h1, h2⟩ (kit_type.trans (kit_ty hc (.lst ts))) (fun z => nomatch z) fun tk => ⟨.bl _, H, I.tok tk, rfl, q⟩
def spSpoil (K : PySem.W.Frag) (n : Nat) : Sp := fun vs H Q _ => ∃ (v : V) (t : Th) (as : List Addr), vs = [v] ∧ HasA K H t v as ∧ as.Nodup ∧ WS n t ∧ ∀ H', SBs as H H' → Q .non H'
section
variable {P : Program} {w : World} {K : PySem.W.Frag} {mg : Str → Option Value} {base : Heap} {f : Addr} {fd : FuncData}
theorem scSp : FnScope ["thing", "one"] ["thing"] (defScope sSpoil) := ⟨rfl, rfl, rfl, by decide +kernel, rfl, by decide +kernel, by decide +kernel⟩
theorem ok_spoil {n : Nat} (F : Fun K "_law_spoil" "_law_spoil" sSpoil f fd) (G : FnOk P w K mg base CX0 n f fd ["thing"] (spSpoil K n)) (bG : Binds K fd ["thing"] []) (T : Txt mg) (mF : mg "_law_spoil" = some (.ref f)) : FnOk P w K mg base CX0 (n + 1) f fd ["thing"] (spSpoil K (n + 1)) := by
  refine F.ok scSp (fun vs H Q E h => ?_) (fun cdv A outer s H vs Q E hr h => ?_)
  · obtain ⟨v, t, as, rfl, _⟩ := h
    rfl
  obtain ⟨v, t, as, rfl, ht, hnd, hw, q⟩ := h
  refine ⟨_, pss_cons (ps_if (pt_val (pe_callB (isI_two (c1 := "list") (c2 := "tuple") (by decide) (by decide)) rfl T.isin PyProof.Rows.boot_isinstance (pa_cons (pv 0) (pa_cons (pe_tup (pa_cons (pe_ty rfl T.list PyProof.Rows.boot_list) (pa_cons (pe_ty rfl T.tup PyProof.Rows.boot_tuple) pa_nil))) pa_nil))))
      (pss_one (ps_for PassesOwn.never rfl (pi_list (pe_callTy call_list_of rfl T.list PyProof.Rows.boot_list (pa_cons (pv 0) pa_nil))) (pg_name (i := 1) scSp.nd rfl (Or.inl rfl)) (pss_one (ps_expr (pe_call G hr rfl mF F.kp bG .nil pass0 (pa_cons (pv 1) pa_nil)))))) pss_nil)
    (pss_one (ps_if (pt_val (pe_callB (isI_top (c := "list") (by decide)) rfl T.isin PyProof.Rows.boot_isinstance (pa_cons (pv 0) (pa_cons (pe_ty rfl T.list PyProof.Rows.boot_list) pa_nil))))
      (pss_one (ps_expr (pe_bm PySem.F.plainAttrs_list PySem.F.slot_list_append PySem.F.type_list_append mt_append (pv 0) (pa_cons pe_int pa_nil)))) pss_nil)), ?_⟩
  refine ⟨_, rfl, le2, fun p0 g0 => ?_⟩
  have s0 : Same H (upd H p0 (.tup [V.ty "list", V.ty "tuple"])) := same_upd g0 _
  generalize hH1 : upd H p0 (.tup [V.ty "list", V.ty "tuple"]) = H1 at s0 ⊢
  have hp0 : H1 p0 = some (.tup [V.ty "list", V.ty "tuple"]) := by rw [← hH1]; exact upd_same
  have turn : ∀ {ts : List Th} {ws : List V} {bs : List Addr} {p : Addr} {H2 : Hp}, HasAL K H2 ts ws bs → bs.Nodup → (∀ u ∈ ts, WS n u) → p ∉ bs → H2 p = some (.lst ws) →
      ∀ (x : V) (i : Nat) (H3 : Hp), ws[i]? = some x → (∃ b c, bs = b ++ c ∧ SBs b H2 H3 ∧ HasAL K H2 (ts.drop i) (ws.drop i) c) →
        ∃ t' b, HasA K H3 t' x b ∧ b.Nodup ∧ WS n t' ∧ ∀ H4, SBs b H3 H4 → ∃ b' c, bs = b' ++ c ∧ SBs b' H2 H4 ∧ HasAL K H2 (ts.drop (i + 1)) (ws.drop (i + 1)) c := by
    intro ts ws bs p H2 hA hN hWS hp hpp x i H3 hx ⟨b, c, e, s3, hD⟩
    have hlt := (List.getElem?_eq_some_iff.mp hx).1
    have hxe := (List.getElem?_eq_some_iff.mp hx).2
    have ed : ws.drop i = x :: ws.drop (i + 1) := by rw [List.drop_eq_getElem_cons hlt, hxe]
    obtain ⟨t', us, b1, c1, et, h1, h2, e2⟩ := hD.at ed
    have eu : ts.drop (i + 1) = us := by rw [← List.drop_drop (i := 1), et]; rfl
    have hmem : t' ∈ ts := List.mem_of_mem_drop (i := i) (by rw [et]; exact List.mem_cons_self)
    rw [e, e2] at hN
    have hN2 := List.nodup_append.mp hN
    have hN3 := List.nodup_append.mp hN2.2.1
    refine ⟨t', b1, HasA.kept s3 (fun y hy => hA.lists y (by rw [e]; exact List.mem_append_left _ hy)) h1 (fun y hy hy' => hN2.2.2 y hy' y (List.mem_append_left _ hy) rfl), hN3.1, hWS t' hmem, fun H4 s4 => ⟨b ++ b1, c1, by rw [e, e2, List.append_assoc], s3.trans s4, ?_⟩⟩
    rw [eu]
    exact h2
  cases t with
  | non => exact hw.elim
  | str z => exact hw.elim
  | int i =>
    refine ⟨_, _, p0, rfl, SqT.of hp0, ht.has.mono s0, _, rfl, iteF ?_⟩
    refine ⟨_, rfl, _, .int i, rfl, ht.has.mono s0, _, rfl, iteF ?_⟩
    exact q _ (SBs.same s0)
  | bl i =>
    refine ⟨_, _, p0, rfl, SqT.of hp0, ht.has.mono s0, _, rfl, iteF ?_⟩
    refine ⟨_, rfl, _, .bl i, rfl, ht.has.mono s0, _, rfl, iteF ?_⟩
    exact q _ (SBs.same s0)
  | tup ts =>
    have ht0 := ht.has
    obtain ⟨hlen, hall⟩ := hw
    obtain ⟨a, ws, rfl, hS, hL⟩ := ht
    refine ⟨_, _, p0, rfl, SqT.of hp0, ht0.mono s0, _, rfl, iteT ?_⟩
    refine ⟨_, rfl, a, ws, rfl, .inr (Same.sqt s0 hS), fun p hp => ⟨p, rfl, ⟨_, SqL.of upd_same⟩, ?_⟩⟩
    have u := same_upd hp (.lst ws)
    have S1 := s0.trans u
    have hpn : p ∉ as := fun z => by obtain ⟨zs, e⟩ := hL.lists p z; rw [s0 _ _ e] at hp; cases hp
    have hp1 : upd H1 p (.lst ws) p = some (.lst ws) := upd_same
    generalize upd H1 p (.lst ws) = H2 at S1 hp1 u ⊢
    have hA := hL.mono S1
    refine for_list (K := K) (a := p) (xs := ws) (fun i σ H3 => (∃ o, σ = [some (.ref a), o]) ∧ ∃ b c, as = b ++ c ∧ SBs b H2 H3 ∧ HasAL K H2 (ts.drop i) (ws.drop i) c) ⟨⟨_, rfl⟩, [], as, rfl, fun _ _ _ z => z, hA⟩ (fun i σ H3 _ h3 => ?_) ?_ ?_
    · obtain ⟨_, b, c, e, s3, _⟩ := h3
      exact SqL.of (s3 _ _ (fun z => hpn (by rw [e]; exact List.mem_append_left _ z)) hp1)
    · rintro i x σ H3 hx ⟨⟨o, rfl⟩, h3⟩
      obtain ⟨t', b, g1, g2, g3, g4⟩ := turn hA hnd hall hpn hp1 x i H3 hx h3
      exact ⟨_, rfl, x, t', b, rfl, g1, g2, g3, fun H4 s4 => ⟨⟨_, rfl⟩, g4 H4 s4⟩⟩
    rintro σ H3 ⟨⟨o, rfl⟩, b, c, e, s3, hD⟩
    have hb : ∀ y ∈ b, ∃ zs, H2 y = some (.lst zs) := fun y hy => hA.lists y (by rw [e]; exact List.mem_append_left _ hy)
    refine ⟨_, rfl, _, .tup ts, rfl, ⟨a, ws, rfl, sqt_kept s3 hb (Same.sqt S1 hS)⟩, _, rfl, iteF ?_⟩
    refine q _ fun y uy ny hy => s3 y uy (fun z => ny (by rw [e]; exact List.mem_append_left _ z)) (S1 _ _ hy)
  | lst ts =>
    have ht0 := ht.has
    obtain ⟨hlen, hall⟩ := hw
    obtain ⟨a, ws, bs, rfl, hS, hL, rfl⟩ := ht
    have hnd' := List.nodup_cons.mp hnd
    refine ⟨_, _, p0, rfl, SqT.of hp0, ht0.mono s0, _, rfl, iteT ?_⟩
    refine ⟨_, rfl, a, ws, rfl, .inl (SqL.of (s0 _ _ hS)), fun p hp => ⟨p, rfl, ⟨_, SqL.of upd_same⟩, ?_⟩⟩
    have u := same_upd hp (.lst ws)
    have S1 := s0.trans u
    have hpn : p ∉ bs := fun z => by obtain ⟨zs, e⟩ := hL.lists p z; rw [s0 _ _ e] at hp; cases hp
    have hp1 : upd H1 p (.lst ws) p = some (.lst ws) := upd_same
    generalize upd H1 p (.lst ws) = H2 at S1 hp1 u ⊢
    have hA := hL.mono S1
    refine for_list (K := K) (a := p) (xs := ws) (fun i σ H3 => (∃ o, σ = [some (.ref a), o]) ∧ ∃ b c, bs = b ++ c ∧ SBs b H2 H3 ∧ HasAL K H2 (ts.drop i) (ws.drop i) c) ⟨⟨_, rfl⟩, [], bs, rfl, fun _ _ _ z => z, hA⟩ (fun i σ H3 _ h3 => ?_) ?_ ?_
    · obtain ⟨_, b, c, e, s3, _⟩ := h3
      exact SqL.of (s3 _ _ (fun z => hpn (by rw [e]; exact List.mem_append_left _ z)) hp1)
    · rintro i x σ H3 hx ⟨⟨o, rfl⟩, h3⟩
      obtain ⟨t', b, g1, g2, g3, g4⟩ := turn hA hnd'.2 hall hpn hp1 x i H3 hx h3
      exact ⟨_, rfl, x, t', b, rfl, g1, g2, g3, fun H4 s4 => ⟨⟨_, rfl⟩, g4 H4 s4⟩⟩
    rintro σ H3 ⟨⟨o, rfl⟩, b, c, e, s3, hD⟩
    have ha3 : H3 a = some (.lst ws) := s3 _ _ (fun z => hnd'.1 (by rw [e]; exact List.mem_append_left _ z)) (S1 _ _ hS)
    refine ⟨_, rfl, _, .lst ts, rfl, ⟨a, ws, rfl, SqL.of ha3⟩, _, rfl, iteT ?_⟩
    refine ⟨_, rfl, .inl ⟨rfl, _, SqL.of ha3⟩, a, ws, _, rfl, rfl, ha3, ltK (by rw [hL.has.length]; omega), ?_⟩
    refine q _ fun y uy ny hy => ?_
    have ny' := fun z => ny (List.mem_cons.mpr z)
    rw [upd_ne (fun z => ny' (.inl z))]
    exact s3 y uy (fun z => ny' (.inr (by rw [e]; exact List.mem_append_left _ z))) (S1 _ _ hy)
theorem all_spoil (F : Fun K "_law_spoil" "_law_spoil" sSpoil f fd) (bG : Binds K fd ["thing"] []) (T : Txt mg) (mF : mg "_law_spoil" = some (.ref f)) : ∀ n, FnOk P w K mg base CX0 n f fd ["thing"] (spSpoil K n)
  | 0 => ⟨fun vs H Q E h => by obtain ⟨_, _, _, _, _, _, hd, _⟩ := h; exact hd.elim, fun A outer s H args us vs Q E _ _ _ _ h => by obtain ⟨_, _, _, _, _, _, hd, _⟩ := h; exact hd.elim⟩
  | n + 1 => ok_spoil F (all_spoil F bG T mF n) bG T mF
end
/-! ### a thing that is new: its lists are unlike, and none was there ahead -/
def New (K : PySem.W.Frag) (H H' : Hp) (t : Th) (v : V) : Prop := ∃ as, HasA K H' t v as ∧ as.Nodup ∧ ∀ b ∈ as, H b = none
theorem New.mono {K : PySem.W.Frag} {H H' H'' : Hp} {t : Th} {v : V} (s : Same H' H'') (h : New K H H' t v) : New K H H'' t v := by
  obtain ⟨as, h1, h2, h3⟩ := h
  exact ⟨as, h1.mono s, h2, h3⟩
theorem New.weak {K : PySem.W.Frag} {H0 H H' : Hp} {t : Th} {v : V} (s : Same H0 H) (h : New K H H' t v) : New K H0 H' t v := by
  obtain ⟨as, h1, h2, h3⟩ := h
  exact ⟨as, h1, h2, fun b hb => none_back s (h3 b hb)⟩
theorem New.has {K : PySem.W.Frag} {H H' : Hp} {t : Th} {v : V} (h : New K H H' t v) : Has K H' t v := by
  obtain ⟨as, h1, _⟩ := h
  exact h1.has
/-- what was there ahead of a new thing stays when that is spoilt -/
theorem same_of {H0 H H' : Hp} {as : List Addr} (s : Same H0 H) (hn : ∀ b ∈ as, H0 b = none) (x : SBs as H H') : Same H0 H' := fun b u q => x b u (fun z => by rw [hn b z] at q; cases q) (s b u q)
theorem leavesA {K : PySem.W.Frag} {H H' : Hp} : ∀ {ts : List Th} {vs : List V}, HasL K H ts vs → (∀ t ∈ ts, OfK .num t ∨ OfK .truth t) → HasAL K H' ts vs []
  | [], _, h, _ => ⟨h, rfl⟩
  | t :: ts, _, ⟨v, r, e, h1, h2⟩, hl => ⟨v, r, [], [], e, by
      rcases hl t List.mem_cons_self with z | z
      · obtain ⟨i, rfl, _⟩ := ofK_num z; exact ⟨h1, rfl⟩
      · obtain ⟨b, rfl⟩ := ofK_truth z; exact ⟨h1, rfl⟩, leavesA h2 fun u hu => hl u (List.mem_cons_of_mem _ hu), rfl⟩
theorem lensA {K : PySem.W.Frag} {H H' : Hp} : ∀ {ts : List Th} {vs : List V}, HasL K H (ts.map lenT) vs → HasAL K H' (ts.map lenT) vs []
  | [], _, h => ⟨h, rfl⟩
  | _ :: ts, _, ⟨v, r, e, h1, h2⟩ => ⟨v, r, [], [], e, ⟨h1, rfl⟩, lensA (ts := ts) h2, rfl⟩
theorem New.list {K : PySem.W.Frag} {H H' : Hp} {ts : List Th} {vs : List V} {p : Addr} (h : HasAL K H' ts vs []) (hp : H' p = some (.lst vs)) (hn : H p = none) : New K H H' (.lst ts) (.ref p) :=
  ⟨[p], ⟨p, vs, [], rfl, hp, h, rfl⟩, by simp, fun b hb => by rw [List.mem_singleton.mp hb]; exact hn⟩
theorem New.pair {K : PySem.W.Frag} {H H1 H2 H3 : Hp} {t1 t2 : Th} {v1 v2 : V} {p : Addr} (h1 : New K H H1 t1 v1) (s12 : Same H1 H2) (h2 : New K H2 H3 t2 v2) (s01 : Same H H1) (s23 : Same H2 H3) (hp : H3 p = some (.tup [v1, v2])) : New K H H3 (.tup [t1, t2]) (.ref p) := by
  obtain ⟨as, a1, a2, a3⟩ := h1
  obtain ⟨bs, b1, b2, b3⟩ := h2
  refine ⟨as ++ bs, ⟨p, _, rfl, SqT.of hp, v1, [v2], as, bs, rfl, a1.mono (s12.trans s23), ⟨v2, [], bs, [], rfl, b1, ⟨rfl, rfl⟩, by rw [List.append_nil]⟩, rfl⟩, ?_, fun b hb => ?_⟩
  · refine List.nodup_append.mpr ⟨a2, b2, fun x hx y hy e => ?_⟩
    subst e
    obtain ⟨zs, z⟩ := a1.lists x hx
    have := b3 x hy
    rw [s12 _ _ z] at this
    cases this
  · rcases List.mem_append.mp hb with z | z
    · exact a3 b z
    · exact none_back (s01.trans s12) (b3 b z)
/-! ### [_law_worth(tape, kind) for k in range(..)] -/
theorem draw_worths {K : PySem.W.Frag} {k : Kd} {kv : V} {ta : Addr} {N r : Nat} {H : Hp} {Q : VK} (g : HasN K H ta k.th kv) (hk : k.deep ≤ 4) (tp : Tape H ta N) (hN : N < 900000000000000000) (hr : r ≤ 60)
    (q : ∀ ys ts H', SB ta H H' → Tape H' ta (N + r * 8024120603) → HasFL K H' (fun b => b ≠ ta) ts ys → ts.length = r → (∀ t ∈ ts, OfK k t ∧ nod t ≤ 8121) → ∀ p, H' p = none → Q (.ref p) (upd H' p (.lst ys))) :
    CompGo (Itr 0 r) (tCall (spWorth K 5) [V.bl true] E0 (tCons (tVar 2) (tCons (tVar 1) tNil))) [some kv, some (.ref ta)] H Q := by
  have w4 : wd k.deep ≤ 8024120603 := Nat.le_trans (wd_mono hk) (by decide)
  have x4 : wb k.deep ≤ 8121 := Nat.le_trans (wb_mono hk) (by decide)
  refine comp_range (lo := 0) (n := r) (fun i ys H4 => SB ta H H4 ∧ Tape H4 ta (N + i * 8024120603) ∧ ∃ ts, HasFL K H4 (fun b => b ≠ ta) ts ys ∧ ts.length = i ∧ ∀ t ∈ ts, OfK k t ∧ nod t ≤ 8121) ⟨SB.refl, tp.le (by omega), [], HasFL.nil, rfl, fun _ h => absurd h (by simp)⟩ (fun i ys H4 h4 => ?_) (ltK (by omega)) ?_ ?_
  · obtain ⟨_, _, ts, hL, hl, _⟩ := h4
    rw [hL.length, hl]
  · rintro i ys H4 Q4 hi ⟨s4, t4, ts, hL, hl, ho⟩ k4
    refine ⟨_, rfl, _, rfl, ta, kv, true, k, _, rfl, HasN.sb s4 g, by omega, t4, by omega, fun t v H5 s5 t5 g5 o5 n5 => k4 _ _ ⟨s4.trans s5, t5.le (by omega), ts ++ [t], (HasNL.sb s5 hL).append (HasFL.cons g5 HasFL.nil), by rw [List.length_append, hl]; rfl, fun u hu => ?_⟩⟩
    rcases List.mem_append.mp hu with h | h
    · exact ho u h
    · rw [List.mem_singleton.mp h]; exact ⟨o5, by omega⟩
  · rintro ys H4 ⟨s4, t4, ts, hL, hl, ho⟩ p hp
    exact q ys ts H4 s4 t4 hL hl ho p hp
theorem worths_nod {k : Kd} {ts : List Th} (hl : ts.length ≤ 60) (ho : ∀ t ∈ ts, OfK k t ∧ nod t ≤ 8121) : nodL ts ≤ 487260 := by
  have h := nodL_le (B := 8121) (ts := ts) fun t ht => (ho t ht).2
  have h2 : ts.length * 8121 ≤ 60 * 8121 := Nat.mul_le_mul_right _ hl
  omega
def spLaw (K : PySem.W.Frag) : Sp := fun vs H Q _ => ∃ (a : Addr) (ns : List Int), vs = [.ref a] ∧ SqL K H a (ns.map V.int) ∧ ns.length ≤ 63 ∧ ∀ H', Q (.bl true) H'
def intsN (ls : List Nat) : List V := ls.map fun (n : Nat) => V.int (n : Int)
/-! ### taken_there, things_of -/
def pick (ts : List Th) (ns : List Nat) : List Th := ns.map fun n => ts.getD n .non
def thingsN (ls : List Nat) (ns : List Nat) : List Nat := ns.flatMap fun n => (List.range (ls.getD n 0)).map fun j => (ls.take n).sum + j
def kl (t : Th) : Nat := (kids t).length
theorem getD_of {α : Type} {d : α} {l : List α} {n : Nat} {x : α} (h : l[n]? = some x) : l.getD n d = x := by rw [List.getD_eq_getElem?_getD, h]; rfl
theorem sum_kl : ∀ ts : List Th, (ts.map kl).sum = (ts.flatMap kids).length
  | [] => rfl
  | t :: ts => by rw [List.map_cons, List.sum_cons, sum_kl ts, List.flatMap_cons, List.length_append]; rfl
theorem pick_mid (A Kk B : List Th) : ((List.range Kk.length).map fun j => (A ++ (Kk ++ B)).getD (A.length + j) .non) = Kk := by
  apply List.ext_getElem
  · rw [List.length_map, List.length_range]
  · intro i h1 h2
    rw [List.getElem_map, List.getElem_range]
    refine getD_of ?_
    rw [List.getElem?_append_right (by omega), Nat.add_sub_cancel_left, List.getElem?_append_left h2, List.getElem?_eq_getElem h2]
theorem pick_things {ts : List Th} : ∀ {ns : List Nat}, (∀ n ∈ ns, n < ts.length) → pick (ts.flatMap kids) (thingsN (ts.map kl) ns) = (pick ts ns).flatMap kids
  | [], _ => rfl
  | n :: ns, h => by
    have hn := h n List.mem_cons_self
    have ih := pick_things (ns := ns) fun m hm => h m (List.mem_cons_of_mem _ hm)
    have e1 : (ts.map kl).getD n 0 = (kids ts[n]).length := getD_of (by rw [List.getElem?_map, List.getElem?_eq_getElem hn]; rfl)
    have e2 : ((ts.map kl).take n).sum = ((ts.take n).flatMap kids).length := by rw [← List.map_take, sum_kl]
    have e3 : ts.getD n .non = ts[n] := getD_of (List.getElem?_eq_getElem hn)
    have e4 : ts.flatMap kids = (ts.take n).flatMap kids ++ (kids ts[n] ++ (ts.drop (n + 1)).flatMap kids) := by
      conv => lhs; rw [← List.take_append_drop n ts, List.drop_eq_getElem_cons hn, List.flatMap_append, List.flatMap_cons]
    show (((List.range ((ts.map kl).getD n 0)).map fun j => ((ts.map kl).take n).sum + j) ++ thingsN (ts.map kl) ns).map (fun m => (ts.flatMap kids).getD m .non) = kids (ts.getD n .non) ++ (pick ts ns).flatMap kids
    rw [List.map_append, List.map_map, e1, e2, e3, ← ih]
    congr 1
    conv => lhs; rw [e4]
    exact pick_mid _ _ _
theorem things_lt {ts : List Th} {ns : List Nat} (h : ∀ n ∈ ns, n < ts.length) : ∀ m ∈ thingsN (ts.map kl) ns, m < (ts.flatMap kids).length := fun m hm => by
  obtain ⟨n, hn, hm'⟩ := List.mem_flatMap.mp hm
  obtain ⟨j, hj, rfl⟩ := List.mem_map.mp hm'
  rw [List.mem_range] at hj
  have hlt := h n hn
  have e1 : (ts.map kl).getD n 0 = kl ts[n] := getD_of (by rw [List.getElem?_map, List.getElem?_eq_getElem hlt]; rfl)
  rw [← sum_kl]
  have e2 : (ts.map kl).sum = ((ts.map kl).take n).sum + (kl ts[n] + ((ts.map kl).drop (n + 1)).sum) := by
    conv => lhs; rw [← List.take_append_drop n (ts.map kl), List.drop_eq_getElem_cons (by rw [List.length_map]; exact hlt), List.sum_append, List.sum_cons, List.getElem_map]
  omega
theorem pick_map {g : Th → Th} {ts : List Th} : ∀ {ns : List Nat}, (∀ n ∈ ns, n < ts.length) → (pick ts ns).map g = pick (ts.map g) ns
  | [], _ => rfl
  | n :: ns, h => by
    have hn := h n List.mem_cons_self
    have ih := pick_map (g := g) (ns := ns) fun m hm => h m (List.mem_cons_of_mem _ hm)
    show g (ts.getD n .non) :: (pick ts ns).map g = (ts.map g).getD n .non :: pick (ts.map g) ns
    rw [ih, getD_of (List.getElem?_eq_getElem hn), getD_of (show (ts.map g)[n]? = some (g ts[n]) by rw [List.getElem?_map, List.getElem?_eq_getElem hn]; rfl)]
theorem pick_ok {k : Kd} {ts : List Th} {ns : List Nat} (ho : ∀ t ∈ ts, OfK k t) (h : ∀ n ∈ ns, n < ts.length) : ∀ t ∈ pick ts ns, OfK k t := fun t ht => by
  obtain ⟨n, hn, rfl⟩ := List.mem_map.mp ht
  rw [getD_of (List.getElem?_eq_getElem (h n hn))]
  exact ho _ (List.getElem_mem _)
theorem intsN_get {ls : List Nat} {i : Nat} {x : V} (h : (intsN ls)[i]? = some x) : ∃ n, ls[i]? = some n ∧ x = .int (n : Int) := by
  unfold intsN at h
  rw [List.getElem?_map] at h
  cases e : ls[i]? with
  | none => rw [e] at h; cases h
  | some n => rw [e] at h; exact ⟨n, rfl, (Option.some.inj h).symm⟩
theorem intsN_at {ls : List Nat} {n m : Nat} (h : ls[n]? = some m) : atI (intsN ls) (n : Int) = some (.int (m : Int)) := atI_nat (by unfold intsN; rw [List.getElem?_map, h]; rfl)
theorem intsN_len (ls : List Nat) : (intsN ls).length = ls.length := by unfold intsN; rw [List.length_map]
theorem intsN_app (a b : List Nat) : intsN (a ++ b) = intsN a ++ intsN b := by unfold intsN; rw [List.map_append]
theorem lens_intsN {K : PySem.W.Frag} {H : Hp} : ∀ {ts : List Th} {vs : List V}, HasL K H (ts.map lenT) vs → vs = intsN (ts.map kl)
  | [], _, h => h
  | t :: ts, _, ⟨v, r, e, h1, h2⟩ => by rw [e, lens_intsN (ts := ts) h2, h1]; rfl
def spThings : Sp := fun vs H Q _ => ∃ (la na : Addr) (ls ns : List Nat), vs = [.ref la, .ref na] ∧ H la = some (.lst (intsN ls)) ∧ H na = some (.lst (intsN ns)) ∧ (∀ n ∈ ns, n < ls.length) ∧ ls.length ≤ 1000000 ∧ ls.sum ≤ 1000000 ∧ (thingsN ls ns).length ≤ 1000000 ∧
  ∀ l H', Same H H' → H l = none → H' l = some (.lst (intsN (thingsN ls ns))) → Q (.ref l) H'
def spTaken (K : PySem.W.Frag) (n : Nat) : Sp := fun vs H Q _ => ∃ (kv fv : V) (na : Addr) (k : Kd) (ts : List Th) (ns : List Nat), vs = [kv, fv, .ref na] ∧ Has K H k.th kv ∧ k.deep < n ∧ Has K H (flatT k ts) fv ∧ (∀ t ∈ ts, OfK k t) ∧ nodL ts ≤ 1000000 ∧ H na = some (.lst (intsN ns)) ∧ (∀ m ∈ ns, m < ts.length) ∧ nodL (pick ts ns) ≤ 1000000 ∧
  ∀ v H', Same H H' → New K H H' (flatT k (pick ts ns)) v → Q v H'
section
variable {P : Program} {w : World} {K : PySem.W.Frag} {mg : Str → Option Value} {base : Heap} {f : Addr} {fd : FuncData}
theorem scTh : FnScope ["lengths", "numbers", "starts", "start", "length", "things", "number"] ["lengths", "numbers"] (defScope sThings) := ⟨rfl, rfl, rfl, by decide +kernel, rfl, by decide +kernel, by decide +kernel⟩
theorem ok_things (F : Fun K "things_of" "things_of" sThings f fd) (T : Txt mg) : FnOk P w K mg base CX0 1 f fd ["lengths", "numbers"] spThings := by
  refine F.ok scTh (fun vs H Q E h => ?_) (fun cdv A outer s H vs Q E hr h => ?_)
  · obtain ⟨la, na, ls, ns, rfl, _⟩ := h
    rfl
  obtain ⟨la, na, ls, ns, rfl, hla, hna, hlt, hll, hls, hlen, q⟩ := h
  refine ⟨_, pss_cons (ps_set (i := 2) scTh.nd rfl (Or.inl rfl) (pe_lst pa_nil))
    (pss_cons (ps_set (i := 3) scTh.nd rfl (Or.inl rfl) pe_int)
    (pss_cons (ps_for PassesOwn.never rfl (pi_list (pv 0)) (pg_name (i := 4) scTh.nd rfl (Or.inl rfl))
      (pss_cons (ps_expr (pe_bm PySem.F.plainAttrs_list PySem.F.slot_list_append PySem.F.type_list_append mt_append (pv 2) (pa_cons (pv 3) pa_nil)))
      (pss_one (ps_set (i := 3) scTh.nd rfl (Or.inl rfl) (pe_op op_add (pv 3) (pv 4))))))
    (pss_cons (ps_set (i := 5) scTh.nd rfl (Or.inl rfl) (pe_lst pa_nil))
    (pss_cons (ps_for PassesOwn.never rfl (pi_list (pv 1)) (pg_name (i := 6) scTh.nd rfl (Or.inl rfl))
      (pss_one (ps_expr (pe_bm PySem.F.plainAttrs_list PySem.F.slot_list_extend PySem.F.type_list_extend mt_extend (pv 5) (pa_cons (pe_callTy (call_listR rfl) rfl T.list PyProof.Rows.boot_list (pa_cons (pe_callTy call_rng2 rfl T.range PyProof.Rows.boot_range (pa_cons (pe_ix ix_list (pv 2) (pv 6) (fun _ _ => rfl)) (pa_cons (pe_op op_add (pe_ix ix_list (pv 2) (pv 6) (fun _ _ => rfl)) (pe_ix ix_list (pv 0) (pv 6) (fun _ _ => rfl))) pa_nil))) pa_nil)) pa_nil)))))
    (pss_one (ps_ret (pv 5))))))), ?_⟩
  refine ⟨Nat.zero_le _, fun sa hsa => ?_⟩
  have s0 : Same H (upd H sa (.lst [])) := same_upd hsa _
  refine ⟨_, rfl, la, rfl, ⟨_, SqL.of (s0 _ _ hla)⟩, ?_⟩
  have nsl : sa ≠ la := fun e => by rw [e, hla] at hsa; cases hsa
  refine for_list (K := K) (a := la) (xs := intsN ls) (fun i σ H2 => i ≤ ls.length ∧ (∃ o, σ = [some (.ref la), some (.ref na), some (.ref sa), some (.int (((ls.take i).sum : Nat) : Int)), o, none, none]) ∧ Same H H2 ∧ H2 sa = some (.lst (intsN ((List.range i).map fun j => (ls.take j).sum))))
    ⟨Nat.zero_le _, ⟨_, rfl⟩, s0, upd_same⟩ (fun i σ H2 _ h2 => SqL.of (h2.2.2.1 _ _ hla)) ?_ ?_
  · rintro i x σ H2 hx ⟨hi, ⟨o, rfl⟩, s2, h2⟩
    obtain ⟨n, en, rfl⟩ := intsN_get hx
    have hi' : i < ls.length := (List.getElem?_eq_some_iff.mp en).1
    refine ⟨_, rfl, .inl ⟨rfl, _, SqL.of h2⟩, _, rfl, sa, _, _, rfl, rfl, h2, ltK (by rw [intsN_len, List.length_map, List.length_range]; omega), ?_⟩
    refine ⟨_, rfl, _, rfl, _, _, rfl, rfl, hi', ⟨some (.int (n : Int)), ?_⟩, Same.own s2 hsa _, ?_⟩
    · have e2 : (((ls.take i).sum : Nat) : Int) + (n : Int) = (((ls.take (i + 1)).sum : Nat) : Int) := by
        rw [List.take_add_one, en, List.sum_append]
        simp
      exact congrArg (fun z => [some (V.ref la), some (V.ref na), some (V.ref sa), some (V.int z), some (V.int (n : Int)), none, none]) e2
    · rw [upd_same, List.range_succ, List.map_append, intsN_app]
      rfl
  rintro σ H2 ⟨_, ⟨o, rfl⟩, s2, h2⟩
  rw [intsN_len] at h2 ⊢
  refine ⟨Nat.zero_le _, fun th hth => ?_⟩
  have u3 := same_upd hth (.lst [])
  have S3 := s2.trans u3
  have h3 := u3 _ _ h2
  refine ⟨_, rfl, na, rfl, ⟨_, SqL.of (S3 _ _ hna)⟩, ?_⟩
  refine for_list (K := K) (a := na) (xs := intsN ns) (fun i σ H4 => i ≤ ns.length ∧ (∃ o o', σ = [some (.ref la), some (.ref na), some (.ref sa), o', o, some (.ref th), none] ∨ ∃ x, σ = [some (.ref la), some (.ref na), some (.ref sa), o', o, some (.ref th), some x]) ∧ Same H H4 ∧ H4 sa = some (.lst (intsN ((List.range ls.length).map fun j => (ls.take j).sum))) ∧ H4 th = some (.lst (intsN (thingsN ls (ns.take i)))))
    ⟨Nat.zero_le _, ⟨_, _, .inl rfl⟩, S3, h3, upd_same⟩ (fun i σ H4 _ h4 => SqL.of (h4.2.2.1 _ _ hna)) ?_ ?_
  · rintro i x σ H4 hx ⟨hi, ⟨o, o', hσ⟩, s4, h4, h5⟩
    obtain ⟨n, en, rfl⟩ := intsN_get hx
    have hi' : i < ns.length := (List.getElem?_eq_some_iff.mp en).1
    have hn := hlt n (List.mem_of_getElem? en)
    have eL : ls[n]? = some ls[n] := List.getElem?_eq_getElem hn
    have eD : ls.getD n 0 = ls[n] := getD_of eL
    have eS : ((List.range ls.length).map fun j => (ls.take j).sum)[n]? = some (ls.take n).sum := by rw [List.getElem?_map, List.getElem?_range hn]; rfl
    have tk : thingsN ls (ns.take (i + 1)) = thingsN ls (ns.take i) ++ ((List.range ls[n]).map fun j => (ls.take n).sum + j) := by
      unfold thingsN
      rw [List.take_add_one, en, List.flatMap_append, ← eD]
      show _ ++ (((List.range (ls.getD n 0)).map fun j => (ls.take n).sum + j) ++ []) = _
      rw [List.append_nil]
    have hb1 : (ls.take n).sum + (ls[n] + (ls.drop (n + 1)).sum) = ls.sum := by
      conv => rhs; rw [← List.take_append_drop n ls, List.drop_eq_getElem_cons hn, List.sum_append, List.sum_cons]
    have hb2 : (thingsN ls (ns.take i)).length + ls[n] ≤ 1000000 := by
      have h6 : (thingsN ls (ns.take (i + 1))).length ≤ (thingsN ls ns).length := by
        have : thingsN ls ns = thingsN ls (ns.take (i + 1)) ++ thingsN ls (ns.drop (i + 1)) := by
          unfold thingsN
          rw [← List.flatMap_append, List.take_append_drop]
        rw [this, List.length_append]
        omega
      rw [tk, List.length_append, List.length_map, List.length_range] at h6
      omega
    have nth : th ≠ na := fun e => by rw [e, s2 _ _ hna] at hth; cases hth
    have etn : (((ls.take n).sum : Nat) : Int) + ((ls[n] : Nat) : Int) - (((ls.take n).sum : Nat) : Int) = ((ls[n] : Nat) : Int) := by omega
    rcases hσ with rfl | ⟨xx, rfl⟩
    all_goals
      refine ⟨_, rfl, .inl ⟨rfl, _, SqL.of h5⟩, _, rfl, _, rfl, sa, _, _, _, rfl, rfl, SqL.of h4, intsN_at eS, _, rfl, _, rfl, sa, _, _, _, rfl, rfl, SqL.of h4, intsN_at eS, _, rfl, _, rfl, la, _, _, _, rfl, rfl, SqL.of (s4 _ _ hla), intsN_at eL, _, _, rfl, rfl, _, _, rfl, fun pr hpr => ?_⟩
      refine ⟨pr, _, _, rfl, upd_same, ⟨by omega, by omega, by omega, by omega⟩, ?_, fun pl hpl => ?_⟩
      · rw [etn]; exact leK (by omega)
      rw [etn]
      have u6 := same_upd hpr (.rng (((ls.take n).sum : Nat) : Int) ((((ls.take n).sum : Nat) : Int) + ((ls[n] : Nat) : Int)))
      have u7 := same_upd hpl (.lst ((List.range ((ls[n] : Nat) : Int).toNat).map fun (k : Nat) => V.int ((((ls.take n).sum : Nat) : Int) + (k : Int))))
      have S7 := u6.trans u7
      refine ⟨th, pl, _, _, rfl, rfl, S7 _ _ h5, upd_same, leK ?_, ?_⟩
      · rw [intsN_len, List.length_map, List.length_range]
        omega
      have nts : sa ≠ th := fun e => by rw [e] at h2; rw [h2] at hth; cases hth
      refine ⟨hi', ⟨_, _, .inr ⟨_, rfl⟩⟩, Same.own (s4.trans S7) (none_back s2 hth) _, by rw [upd_ne nts]; exact S7 _ _ h4, ?_⟩
      rw [upd_same, tk, intsN_app]
      congr 3
      unfold intsN
      rw [List.map_map]
      rfl
  rintro σ H4 ⟨_, ⟨o, o', hσ⟩, s4, h4, h5⟩
  rw [intsN_len, List.take_length] at h5
  rcases hσ with rfl | ⟨xx, rfl⟩
  all_goals exact ⟨_, rfl, q th H4 s4 (none_back s2 hth) h5⟩
end
theorem fsts_ok {a b : Kd} {ts : List Th} (h : ∀ t ∈ ts, OfK (.pair a b) t) : ∀ t ∈ ts.map fst, OfK a t := fun t ht => by
  obtain ⟨t', h', rfl⟩ := List.mem_map.mp ht
  obtain ⟨x, y, rfl, hx, _⟩ := ofK_pair (h t' h')
  exact hx
theorem snds_ok {a b : Kd} {ts : List Th} (h : ∀ t ∈ ts, OfK (.pair a b) t) : ∀ t ∈ ts.map snd, OfK b t := fun t ht => by
  obtain ⟨t', h', rfl⟩ := List.mem_map.mp ht
  obtain ⟨x, y, rfl, _, hy⟩ := ofK_pair (h t' h')
  exact hy
theorem kids_ok {a : Kd} {ts : List Th} (h : ∀ t ∈ ts, OfK (.row a) t) : ∀ t ∈ ts.flatMap kids, OfK a t := fun t ht => by
  obtain ⟨t', h', h2⟩ := List.mem_flatMap.mp ht
  obtain ⟨us, rfl, _, hu⟩ := ofK_row (h t' h')
  exact hu t h2
theorem pick_take {ts : List Th} {ns : List Nat} {i n : Nat} (e : ns[i]? = some n) : pick ts (ns.take (i + 1)) = pick ts (ns.take i) ++ [ts.getD n .non] := by
  unfold pick
  exact take_map _ e
theorem pick_len (ts : List Th) (ns : List Nat) : (pick ts ns).length = ns.length := by unfold pick; rw [List.length_map]
section
variable {P : Program} {w : World} {K : PySem.W.Frag} {mg : Str → Option Value} {base : Heap} {f : Addr} {fd : FuncData}
theorem scTk : FnScope ["kind", "flat", "numbers", "lengths"] ["kind", "flat", "numbers"] (defScope sTaken) := ⟨rfl, rfl, rfl, by decide +kernel, rfl, by decide +kernel, by decide +kernel⟩
theorem ok_taken {n : Nat} {g : Addr} {gd : FuncData} (F : Fun K "taken_there" "taken_there" sTaken f fd) (G : FnOk P w K mg base CX0 (n + 1) f fd ["kind", "flat", "numbers"] (spTaken K n)) (bG : Binds K fd ["kind", "flat", "numbers"] []) (mF : mg "taken_there" = some (.ref f))
    (R : FnOk P w K mg base CX0 1 g gd ["lengths", "numbers"] spThings) (bR : Binds K gd ["lengths", "numbers"] []) (kR : PySem.W.keepIn K (.ref g) = true) (mR : mg "things_of" = some (.ref g)) :
    FnOk P w K mg base CX0 (n + 2) f fd ["kind", "flat", "numbers"] (spTaken K (n + 1)) := by
  refine F.ok scTk (fun vs H Q E h => ?_) (fun cdv A outer s H vs Q E hr h => ?_)
  · obtain ⟨kv, fv, na, k, ts, ns, rfl, _⟩ := h
    rfl
  obtain ⟨kv, fv, na, k, ts, ns, rfl, hk, hd, hf, ho, hn, hna, hlt, hnp, q⟩ := h
  have hr1 : Room 1 _ := hr.mono (by omega)
  have hnl : ns.length ≤ 1000000 := by have := nodL_len (pick ts ns); rw [pick_len] at this; omega
  cases k with
  | num | truth =>
    refine ⟨_, pss_cons (ps_if (pt_cmpR op_eq (pe_ix ix_tup (pv 0) pe_int (fun _ _ => rfl)) pe_str (nomark _)) pss_never pss_nil)
      (pss_cons (ps_if (pt_cmpR op_eq (pe_ix ix_tup (pv 0) pe_int (fun _ _ => rfl)) pe_str (nomark _)) pss_never pss_nil)
      (pss_one (ps_ret (pe_comp (cl := [("flat", s.heap.objs.size + 1)]) (ys := ["flat"]) (is := [1]) rfl (pi_list (pv 2)) (fun C s' H' fp => pe_ix (ix_listK (K := K) rfl) (pv 1) (pv 0) (fun _ _ => rfl)) (by with_unfolding_all rfl) ⟨rfl, by decide +kernel, by decide +kernel, by decide +kernel, by decide +kernel⟩ (.cons rfl .nil) rfl (.cons rfl (.inr (.inl rfl)) (.inl rfl) rfl rfl (.inl rfl) .nil))))), ?_⟩
    obtain ⟨a, vs, rfl, hS, v0, vr, rfl, rfl, hR⟩ := hk
    obtain ⟨fa, ws, rfl, hF, hL⟩ := hf
    refine ⟨_, rfl, a, _, 0, _, rfl, rfl, hS, at0, rfl, _, rfl, ifN (by decide +kernel) ?_⟩
    refine ⟨_, rfl, a, _, 0, _, rfl, rfl, hS, at0, rfl, _, rfl, ifN (by decide +kernel) ?_⟩
    refine ⟨_, rfl, na, rfl, ⟨_, SqL.of hna⟩, ?_⟩
    refine comp_list (K := K) (a := na) (xs := intsN ns) (fun i ys H2 => Same H H2 ∧ i ≤ ns.length ∧ HasL K H2 (pick ts (ns.take i)) ys) ⟨Same.refl _, Nat.zero_le _, HasL.nil⟩ (fun i ys H2 _ h2 => SqL.of (h2.1 _ _ hna)) (fun i ys H2 h2 => by rw [h2.2.2.length, pick_len, List.length_take]; omega) (by rw [intsN_len]; exact ltK hnl) ?_ ?_
    · rintro i x ys H2 Q2 hx ⟨s2, hi, hy⟩ k2
      obtain ⟨m, em, rfl⟩ := intsN_get hx
      have hm := hlt m (List.mem_of_getElem? em)
      obtain ⟨v, ev, hv⟩ := hL.get (List.getElem?_eq_getElem hm)
      refine ⟨_, rfl, _, rfl, fa, ws, (m : Int), v, rfl, rfl, SqL.of (s2 _ _ hF), atI_nat ev, k2 _ _ ⟨s2, (List.getElem?_eq_some_iff.mp em).1, ?_⟩⟩
      rw [pick_take em, getD_of (List.getElem?_eq_getElem hm)]
      exact hy.append (HasL.cons (hv.mono s2) HasL.nil)
    · rintro ys H2 ⟨s2, _, hy⟩ p hp
      rw [intsN_len, List.take_length] at hy
      refine q _ _ (s2.trans (same_upd hp _)) (New.list (leavesA hy fun t ht => ?_) upd_same (none_back s2 hp))
      first | exact .inl (pick_ok ho hlt t ht) | exact .inr (pick_ok ho hlt t ht)
  | pair ka kb' =>
    refine ⟨_, pss_cons (ps_if (pt_cmpR op_eq (pe_ix ix_tup (pv 0) pe_int (fun _ _ => rfl)) pe_str (nomark _))
      (pss_one (ps_ret (pe_tup (pa_cons (pe_call G hr rfl mF F.kp bG .nil pass0 (pa_cons (pe_ix ix_tup (pv 0) pe_int (fun _ _ => rfl)) (pa_cons (pe_ix ix_tup (pv 1) pe_int (fun _ _ => rfl)) (pa_cons (pv 2) pa_nil))))
        (pa_cons (pe_call G hr rfl mF F.kp bG .nil pass0 (pa_cons (pe_ix ix_tup (pv 0) pe_int (fun _ _ => rfl)) (pa_cons (pe_ix ix_tup (pv 1) pe_int (fun _ _ => rfl)) (pa_cons (pv 2) pa_nil)))) pa_nil))))) pss_nil) pss_never, ?_⟩
    obtain ⟨a, vs, rfl, hS, v0, vr, rfl, rfl, k1, vr1, rfl, h1, k2, vr2, rfl, h2, hR⟩ := hk
    obtain ⟨fa, ws, rfl, hF, f0, fr, rfl, g0, f1, fr1, rfl, g1, _⟩ := hf
    have hd' : max ka.deep kb'.deep + 1 < n + 1 := hd
    have e1 := pick_map (g := fst) hlt
    have e2 := pick_map (g := snd) hlt
    have m1 := nodL_map nod_fst (pick ts ns)
    have m2 := nodL_map nod_snd (pick ts ns)
    have m3 := nodL_map nod_fst ts
    have m4 := nodL_map nod_snd ts
    rw [e1] at m1
    rw [e2] at m2
    refine ⟨_, rfl, a, _, 0, _, rfl, rfl, hS, at0, rfl, _, rfl, ifS rfl ?_⟩
    refine ⟨_, rfl, a, _, 1, k1, rfl, rfl, hS, at1, _, rfl, fa, _, 0, f0, rfl, rfl, hF, at0, _, rfl, k1, f0, na, ka, ts.map fst, ns, rfl, h1, by omega, g0, fsts_ok ho, by omega, hna, fun m hm => by rw [List.length_map]; exact hlt m hm, by omega, fun r1 H1 s1 n1 => ?_⟩
    refine ⟨_, rfl, a, _, 2, k2, rfl, rfl, Same.sqt s1 hS, at2, _, rfl, fa, _, 1, f1, rfl, rfl, Same.sqt s1 hF, at1, _, rfl, k2, f1, na, kb', ts.map snd, ns, rfl, h2.mono s1, by omega, g1.mono s1, snds_ok ho, by omega, s1 _ _ hna, fun m hm => by rw [List.length_map]; exact hlt m hm, by omega, fun r2 H2 s2 n2 => ?_⟩
    refine ⟨le2, fun p hp => q _ _ (s1.trans (s2.trans (same_upd hp _))) ?_⟩
    show New K H _ (.tup [flatT ka ((pick ts ns).map fst), flatT kb' ((pick ts ns).map snd)]) (.ref p)
    rw [e1, e2]
    exact New.pair n1 (Same.refl _) (n2.mono (same_upd hp _)) s1 (s2.trans (same_upd hp _)) upd_same
  | row ka =>
    refine ⟨_, pss_cons (ps_if (pt_cmpR op_eq (pe_ix ix_tup (pv 0) pe_int (fun _ _ => rfl)) pe_str (nomark _)) pss_never pss_nil)
      (pss_cons (ps_if (pt_cmpR op_eq (pe_ix ix_tup (pv 0) pe_int (fun _ _ => rfl)) pe_str (nomark _))
        (pss_cons (ps_comp (j := 3) scTk.nd rfl (Or.inl rfl) (by with_unfolding_all rfl) (cl := [("flat", s.heap.objs.size + 1)]) (ys := ["flat"]) (is := [1]) rfl (pi_list (pv 2)) (fun C s' H' fp => pe_ix (ix_listK (K := K) rfl) (pe_ix (ix_tupK (K := K) rfl) (pv 1) pe_int (fun _ _ => rfl)) (pv 0) (fun _ _ => rfl)) (by with_unfolding_all rfl) ⟨rfl, by decide +kernel, by decide +kernel, by decide +kernel, by decide +kernel⟩ (.cons rfl .nil) rfl (.cons rfl (.inr (.inl rfl)) (.inl rfl) rfl rfl (.inl rfl) .nil))
        (pss_one (ps_ret (pe_tup (pa_cons (pv 3) (pa_cons (pe_call G hr rfl mF F.kp bG .nil pass0 (pa_cons (pe_ix ix_tup (pv 0) pe_int (fun _ _ => rfl)) (pa_cons (pe_ix ix_tup (pv 1) pe_int (fun _ _ => rfl)) (pa_cons (pe_call R hr1 rfl mR kR bR .nil pass0 (pa_cons (pe_ix ix_tup (pv 1) pe_int (fun _ _ => rfl)) (pa_cons (pv 2) pa_nil))) pa_nil)))) pa_nil)))))) pss_nil) pss_never), ?_⟩
    obtain ⟨a, vs, rfl, hS, v0, vr, rfl, rfl, k1, vr1, rfl, h1, hR⟩ := hk
    obtain ⟨fa, ws, rfl, hF, f0, fr, rfl, ⟨la, ls, rfl, hla, hlL⟩, f1, fr1, rfl, g1, _⟩ := hf
    have hd' : ka.deep + 1 < n + 1 := hd
    have els := lens_intsN hlL
    subst els
    have m1 := nodL_flat ts
    have m2 := nodL_flat (pick ts ns)
    have l1 := nodL_len ts
    have l2 := nodL_len (ts.flatMap kids)
    have l3 := nodL_len ((pick ts ns).flatMap kids)
    have ep := pick_things hlt
    have lp : (thingsN (ts.map kl) ns).length = ((pick ts ns).flatMap kids).length := by rw [← ep, pick_len]
    refine ⟨_, rfl, a, _, 0, _, rfl, rfl, hS, at0, rfl, _, rfl, ifN (by decide +kernel) ?_⟩
    refine ⟨_, rfl, a, _, 0, _, rfl, rfl, hS, at0, rfl, _, rfl, ifS rfl ?_⟩
    refine ⟨_, rfl, na, rfl, ⟨_, SqL.of hna⟩, ?_⟩
    refine comp_list (K := K) (a := na) (xs := intsN ns) (fun i ys H2 => Same H H2 ∧ i ≤ ns.length ∧ HasL K H2 ((pick ts (ns.take i)).map lenT) ys) ⟨Same.refl _, Nat.zero_le _, HasL.nil⟩ (fun i ys H2 _ h2 => SqL.of (h2.1 _ _ hna)) (fun i ys H2 h2 => by rw [h2.2.2.length, List.length_map, pick_len, List.length_take]; omega) (by rw [intsN_len]; exact ltK hnl) ?_ ?_
    · rintro i x ys H2 Q2 hx ⟨s2, hi, hy⟩ k2
      obtain ⟨m, em, rfl⟩ := intsN_get hx
      have hm := hlt m (List.mem_of_getElem? em)
      have ekm : (ts.map kl)[m]? = some (kl ts[m]) := by rw [List.getElem?_map, List.getElem?_eq_getElem hm]; rfl
      refine ⟨_, rfl, fa, _, 0, _, rfl, rfl, Same.sqt s2 hF, at0, _, rfl, la, _, (m : Int), _, rfl, rfl, SqL.of (s2 _ _ hla), intsN_at ekm, k2 _ _ ⟨s2, (List.getElem?_eq_some_iff.mp em).1, ?_⟩⟩
      rw [pick_take em, getD_of (List.getElem?_eq_getElem hm), List.map_append]
      exact hy.append (HasL.cons rfl HasL.nil)
    rintro ys H2 ⟨s2, _, hy⟩ p hp
    rw [intsN_len, List.take_length] at hy
    have u := same_upd hp (.lst ys)
    have S2 := s2.trans u
    refine ⟨_, rfl, _, rfl, a, _, 1, k1, rfl, rfl, Same.sqt S2 hS, at1, _, rfl, fa, _, 1, f1, rfl, rfl, Same.sqt S2 hF, at1, _, rfl, fa, _, 0, _, rfl, rfl, Same.sqt S2 hF, at0, _, rfl, la, na, ts.map kl, ns, rfl, S2 _ _ hla, S2 _ _ hna, fun m hm => by rw [List.length_map]; exact hlt m hm, by rw [List.length_map]; omega, by rw [sum_kl]; omega, by omega, fun tl H3 s3 n3 h3 => ?_⟩
    have S3 := S2.trans s3
    refine ⟨k1, f1, tl, ka, ts.flatMap kids, thingsN (ts.map kl) ns, rfl, h1.mono S3, by omega, g1.mono S3, kids_ok ho, by omega, h3, things_lt hlt, by rw [ep]; omega, fun r4 H4 s4 n4 => ?_⟩
    rw [ep] at n4
    refine ⟨le2, fun p5 hp5 => q _ _ (S3.trans (s4.trans (same_upd hp5 _))) ?_⟩
    have nl : New K H (upd H2 p (.lst ys)) (.lst ((pick ts ns).map lenT)) (.ref p) := New.list (lensA hy) upd_same (none_back s2 hp)
    exact New.pair nl s3 (n4.mono (same_upd hp5 _)) S2 (s4.trans (same_upd hp5 _)) upd_same
theorem all_taken {g : Addr} {gd : FuncData} (F : Fun K "taken_there" "taken_there" sTaken f fd) (bG : Binds K fd ["kind", "flat", "numbers"] []) (mF : mg "taken_there" = some (.ref f))
    (R : FnOk P w K mg base CX0 1 g gd ["lengths", "numbers"] spThings) (bR : Binds K gd ["lengths", "numbers"] []) (kR : PySem.W.keepIn K (.ref g) = true) (mR : mg "things_of" = some (.ref g)) : ∀ n, FnOk P w K mg base CX0 (n + 1) f fd ["kind", "flat", "numbers"] (spTaken K n)
  | 0 => ⟨fun vs H Q E h => by obtain ⟨_, _, _, _, _, _, _, _, hd, _⟩ := h; omega, fun A outer s H args us vs Q E _ _ _ _ h => by obtain ⟨_, _, _, _, _, _, _, _, hd, _⟩ := h; omega⟩
  | n + 1 => ok_taken F (all_taken F bG mF R bR kR mR n) bG mF R bR kR mR
end
/-! ### behind -/
def spBehind (K : PySem.W.Frag) (n : Nat) : Sp := fun vs H Q _ => ∃ (kv v1 v2 : V) (k : Kd) (ts us : List Th), vs = [kv, v1, v2] ∧ Has K H k.th kv ∧ k.deep < n ∧ Has K H (flatT k ts) v1 ∧ Has K H (flatT k us) v2 ∧ (∀ t ∈ ts, OfK k t) ∧ (∀ t ∈ us, OfK k t) ∧ nodL ts + nodL us ≤ 1000000 ∧
  ∀ v H', Same H H' → New K H H' (flatT k (ts ++ us)) v → Q v H'
section
variable {P : Program} {w : World} {K : PySem.W.Frag} {mg : Str → Option Value} {base : Heap} {f : Addr} {fd : FuncData}
theorem scB : FnScope ["kind", "one", "other"] ["kind", "one", "other"] (defScope sBehind) := ⟨rfl, rfl, rfl, by decide +kernel, rfl, by decide +kernel, by decide +kernel⟩
theorem ok_behind {n : Nat} (F : Fun K "behind" "behind" sBehind f fd) (G : FnOk P w K mg base CX0 n f fd ["kind", "one", "other"] (spBehind K n)) (bG : Binds K fd ["kind", "one", "other"] []) (mF : mg "behind" = some (.ref f)) :
    FnOk P w K mg base CX0 (n + 1) f fd ["kind", "one", "other"] (spBehind K (n + 1)) := by
  refine F.ok scB (fun vs H Q E h => ?_) (fun cdv A outer s H vs Q E hr h => ?_)
  · obtain ⟨kv, v1, v2, k, ts, us, rfl, _⟩ := h
    rfl
  obtain ⟨kv, v1, v2, k, ts, us, rfl, hk, hd, hf1, hf2, ho1, ho2, hn, q⟩ := h
  refine ⟨_, pss_cons (ps_if (pt_cmpR op_eq (pe_ix ix_tup (pv 0) pe_int (fun _ _ => rfl)) pe_str (nomark _))
      (pss_one (ps_ret (pe_tup (pa_cons (pe_call G hr rfl mF F.kp bG .nil pass0 (pa_cons (pe_ix ix_tup (pv 0) pe_int (fun _ _ => rfl)) (pa_cons (pe_ix ix_tup (pv 1) pe_int (fun _ _ => rfl)) (pa_cons (pe_ix ix_tup (pv 2) pe_int (fun _ _ => rfl)) pa_nil))))
        (pa_cons (pe_call G hr rfl mF F.kp bG .nil pass0 (pa_cons (pe_ix ix_tup (pv 0) pe_int (fun _ _ => rfl)) (pa_cons (pe_ix ix_tup (pv 1) pe_int (fun _ _ => rfl)) (pa_cons (pe_ix ix_tup (pv 2) pe_int (fun _ _ => rfl)) pa_nil)))) pa_nil))))) pss_nil)
    (pss_cons (ps_if (pt_cmpR op_eq (pe_ix ix_tup (pv 0) pe_int (fun _ _ => rfl)) pe_str (nomark _))
      (pss_one (ps_ret (pe_tup (pa_cons (pe_op op_cat (pe_ix ix_tup (pv 1) pe_int (fun _ _ => rfl)) (pe_ix ix_tup (pv 2) pe_int (fun _ _ => rfl)))
        (pa_cons (pe_call G hr rfl mF F.kp bG .nil pass0 (pa_cons (pe_ix ix_tup (pv 0) pe_int (fun _ _ => rfl)) (pa_cons (pe_ix ix_tup (pv 1) pe_int (fun _ _ => rfl)) (pa_cons (pe_ix ix_tup (pv 2) pe_int (fun _ _ => rfl)) pa_nil)))) pa_nil))))) pss_nil)
    (pss_one (ps_ret (pe_op op_cat (pv 1) (pv 2))))), ?_⟩
  have hl1 := nodL_len ts
  have hl2 := nodL_len us
  cases k with
  | num | truth =>
    obtain ⟨a, vs, rfl, hS, v0, vr, rfl, rfl, hR⟩ := hk
    obtain ⟨fa, ws, rfl, hF, hL⟩ := hf1
    obtain ⟨fb, xs, rfl, hF2, hL2⟩ := hf2
    have e1 := hL.length
    have e2 := hL2.length
    refine ⟨_, rfl, a, _, 0, _, rfl, rfl, hS, at0, rfl, _, rfl, ifN (by decide +kernel) ?_⟩
    refine ⟨_, rfl, a, _, 0, _, rfl, rfl, hS, at0, rfl, _, rfl, ifN (by decide +kernel) ?_⟩
    refine ⟨_, rfl, _, rfl, fa, fb, ws, xs, rfl, rfl, hF, hF2, leK (by omega), fun p hp => q _ _ (same_upd hp _) (New.list (leavesA (hL.append hL2) fun t ht => ?_) upd_same hp)⟩
    rcases List.mem_append.mp ht with z | z
    · first | exact .inl (ho1 t z) | exact .inr (ho1 t z)
    · first | exact .inl (ho2 t z) | exact .inr (ho2 t z)
  | pair ka kb' =>
    obtain ⟨a, vs, rfl, hS, v0, vr, rfl, rfl, k1, vr1, rfl, h1, k2, vr2, rfl, h2, hR⟩ := hk
    obtain ⟨fa, ws, rfl, hF, f0, fr, rfl, g0, f1, fr1, rfl, g1, _⟩ := hf1
    obtain ⟨fb, xs, rfl, hF2, x0, xr, rfl, y0, x1, xr1, rfl, y1, _⟩ := hf2
    have hd' : max ka.deep kb'.deep + 1 < n + 1 := hd
    have m1 := nodL_map nod_fst ts
    have m2 := nodL_map nod_fst us
    have m3 := nodL_map nod_snd ts
    have m4 := nodL_map nod_snd us
    refine ⟨_, rfl, a, _, 0, _, rfl, rfl, hS, at0, rfl, _, rfl, ifS rfl ?_⟩
    refine ⟨_, rfl, a, _, 1, k1, rfl, rfl, hS, at1, _, rfl, fa, _, 0, f0, rfl, rfl, hF, at0, _, rfl, fb, _, 0, x0, rfl, rfl, hF2, at0, k1, f0, x0, ka, ts.map fst, us.map fst, rfl, h1, by omega, g0, y0, fsts_ok ho1, fsts_ok ho2, by omega, fun r1 H1 s1 n1 => ?_⟩
    refine ⟨_, rfl, a, _, 2, k2, rfl, rfl, Same.sqt s1 hS, at2, _, rfl, fa, _, 1, f1, rfl, rfl, Same.sqt s1 hF, at1, _, rfl, fb, _, 1, x1, rfl, rfl, Same.sqt s1 hF2, at1, k2, f1, x1, kb', ts.map snd, us.map snd, rfl, h2.mono s1, by omega, g1.mono s1, y1.mono s1, snds_ok ho1, snds_ok ho2, by omega, fun r2 H2 s2 n2 => ?_⟩
    refine ⟨le2, fun p hp => q _ _ (s1.trans (s2.trans (same_upd hp _))) ?_⟩
    show New K H _ (.tup [flatT ka ((ts ++ us).map fst), flatT kb' ((ts ++ us).map snd)]) (.ref p)
    rw [List.map_append, List.map_append]
    exact New.pair n1 (Same.refl _) (n2.mono (same_upd hp _)) s1 (s2.trans (same_upd hp _)) upd_same
  | row ka =>
    obtain ⟨a, vs, rfl, hS, v0, vr, rfl, rfl, k1, vr1, rfl, h1, hR⟩ := hk
    obtain ⟨fa, ws, rfl, hF, f0, fr, rfl, ⟨la, ls, rfl, hla, hlL⟩, f1, fr1, rfl, g1, _⟩ := hf1
    obtain ⟨fb, xs, rfl, hF2, x0, xr, rfl, ⟨lb, ms, rfl, hlb, hmL⟩, x1, xr1, rfl, y1, _⟩ := hf2
    have hd' : ka.deep + 1 < n + 1 := hd
    have m1 := nodL_flat ts
    have m2 := nodL_flat us
    have e1 := hlL.length
    have e2 := hmL.length
    rw [List.length_map] at e1 e2
    refine ⟨_, rfl, a, _, 0, _, rfl, rfl, hS, at0, rfl, _, rfl, ifN (by decide +kernel) ?_⟩
    refine ⟨_, rfl, a, _, 0, _, rfl, rfl, hS, at0, rfl, _, rfl, ifS rfl ?_⟩
    refine ⟨_, rfl, fa, _, 0, _, rfl, rfl, hF, at0, _, rfl, fb, _, 0, _, rfl, rfl, hF2, at0, la, lb, ls, ms, rfl, rfl, hla, hlb, leK (by omega), fun p hp => ?_⟩
    have u := same_upd hp (.lst (ls ++ ms))
    refine ⟨_, rfl, a, _, 1, k1, rfl, rfl, Same.sqt u hS, at1, _, rfl, fa, _, 1, f1, rfl, rfl, Same.sqt u hF, at1, _, rfl, fb, _, 1, x1, rfl, rfl, Same.sqt u hF2, at1, k1, f1, x1, ka, ts.flatMap kids, us.flatMap kids, rfl, h1.mono u, by omega, g1.mono u, y1.mono u, kids_ok ho1, kids_ok ho2, by omega, fun r2 H2 s2 n2 => ?_⟩
    refine ⟨le2, fun p3 hp3 => q _ _ (u.trans (s2.trans (same_upd hp3 _))) ?_⟩
    show New K H _ (.tup [.lst ((ts ++ us).map lenT), flatT ka ((ts ++ us).flatMap kids)]) (.ref p3)
    rw [List.flatMap_append]
    have hl := hlL.append hmL
    rw [← List.map_append] at hl
    exact New.pair (New.list (lensA hl) upd_same hp) (Same.refl _) (n2.mono (same_upd hp3 _)) u (s2.trans (same_upd hp3 _)) upd_same
theorem all_behind (F : Fun K "behind" "behind" sBehind f fd) (bG : Binds K fd ["kind", "one", "other"] []) (mF : mg "behind" = some (.ref f)) : ∀ n, FnOk P w K mg base CX0 n f fd ["kind", "one", "other"] (spBehind K n)
  | 0 => ⟨fun vs H Q E h => by obtain ⟨_, _, _, _, _, _, _, _, hd, _⟩ := h; omega, fun A outer s H args us vs Q E _ _ _ _ h => by obtain ⟨_, _, _, _, _, _, _, _, hd, _⟩ := h; omega⟩
  | n + 1 => ok_behind F (all_behind F bG mF n) bG mF
end
/-! ### kept, merged, _law_put -/
theorem pss_weak {X : Cx} {sts : List Stmt} {t t' : TS} (h : PSs X sts t) (hw : ∀ D σ H, t' D σ H → t D σ H) : PSs X sts t' := fun pins s σ H D I q => h pins s σ H D I (hw D σ H q)
def trueN : Nat → List Bool → List Nat
  | _, [] => []
  | i, b :: bs => if b = true then i :: trueN (i + 1) bs else trueN (i + 1) bs
def keepT {α : Type} : List α → List Bool → List α
  | t :: ts, b :: bs => if b = true then t :: keepT ts bs else keepT ts bs
  | _, _ => []
def mergeN : List Bool → Nat → Nat → List Nat
  | [], _, _ => []
  | b :: bs, x, y => if b = true then x :: mergeN bs (x + 1) y else y :: mergeN bs x (y + 1)
def mergeT {α : Type} : List Bool → List α → List α → List α
  | b :: bs, us, vs => match b, us, vs with
    | true, u :: us, vs => u :: mergeT bs us vs
    | false, us, v :: vs => v :: mergeT bs us vs
    | _, _, _ => []
  | [], _, _ => []
def cnt (bs : List Bool) : Nat := (bs.filter id).length
def cnf (bs : List Bool) : Nat := (bs.filter not).length
theorem cnt_le : ∀ bs : List Bool, cnt bs + cnf bs = bs.length
  | [] => rfl
  | true :: bs => by have := cnt_le bs; show (cnt bs + 1) + cnf bs = bs.length + 1; omega
  | false :: bs => by have := cnt_le bs; show cnt bs + (cnf bs + 1) = bs.length + 1; omega
theorem trueN_snoc : ∀ (bs : List Bool) (i : Nat) (b : Bool), trueN i (bs ++ [b]) = trueN i bs ++ (if b = true then [i + bs.length] else [])
  | [], i, true => rfl
  | [], i, false => rfl
  | true :: bs, i, b => by
    show i :: trueN (i + 1) (bs ++ [b]) = i :: trueN (i + 1) bs ++ _
    rw [trueN_snoc bs (i + 1) b, show i + 1 + bs.length = i + (bs.length + 1) by omega]
    rfl
  | false :: bs, i, b => by
    show trueN (i + 1) (bs ++ [b]) = trueN (i + 1) bs ++ _
    rw [trueN_snoc bs (i + 1) b, show i + 1 + bs.length = i + (bs.length + 1) by omega]
    rfl
theorem trueN_lt : ∀ (bs : List Bool) (i : Nat), ∀ m ∈ trueN i bs, i ≤ m ∧ m < i + bs.length
  | [], _, m, h => absurd h (by simp [trueN])
  | true :: bs, i, m, h => by
    rw [List.length_cons]
    rcases List.mem_cons.mp h with z | z
    · omega
    · have := trueN_lt bs (i + 1) m z; omega
  | false :: bs, i, m, h => by
    rw [List.length_cons]
    have := trueN_lt bs (i + 1) m h; omega
theorem pick_true : ∀ (pre ts : List Th) (bs : List Bool), bs.length = ts.length → pick (pre ++ ts) (trueN pre.length bs) = keepT ts bs
  | pre, [], [], _ => rfl
  | pre, [], _ :: _, h => by simp at h
  | pre, _ :: _, [], h => by simp at h
  | pre, t :: ts, true :: bs, h => by
    have ih := pick_true (pre ++ [t]) ts bs (by simpa using h)
    rw [List.length_append, List.append_assoc] at ih
    show (pre ++ t :: ts).getD pre.length .non :: pick (pre ++ t :: ts) (trueN (pre.length + 1) bs) = t :: keepT ts bs
    rw [getD_of (show (pre ++ t :: ts)[pre.length]? = some t by rw [List.getElem?_append_right (Nat.le_refl _), Nat.sub_self]; rfl)]
    exact congrArg _ ih
  | pre, t :: ts, false :: bs, h => by
    have ih := pick_true (pre ++ [t]) ts bs (by simpa using h)
    rw [List.length_append, List.append_assoc] at ih
    exact ih
theorem keepT_mem {α : Type} : ∀ {ts : List α} {bs : List Bool} {t : α}, t ∈ keepT ts bs → t ∈ ts
  | [], _, _, h => absurd h (by simp [keepT])
  | _ :: _, [], _, h => absurd h (by simp [keepT])
  | u :: ts, true :: bs, t, h => by
    rcases List.mem_cons.mp h with z | z
    · rw [z]; exact List.mem_cons_self
    · exact List.mem_cons_of_mem _ (keepT_mem z)
  | u :: ts, false :: bs, t, h => List.mem_cons_of_mem _ (keepT_mem (bs := bs) h)
theorem keepT_len {α : Type} : ∀ {ts : List α} {bs : List Bool}, bs.length = ts.length → (keepT ts bs).length = cnt bs
  | [], [], _ => rfl
  | [], _ :: _, h => by simp at h
  | _ :: _, [], h => by simp at h
  | _ :: ts, true :: bs, h => by
    have := keepT_len (ts := ts) (bs := bs) (by simpa using h)
    show (keepT ts bs).length + 1 = cnt bs + 1
    omega
  | _ :: ts, false :: bs, h => keepT_len (ts := ts) (bs := bs) (by simpa using h)
theorem keepF_len {α : Type} {ts : List α} : ∀ {bs : List Bool}, bs.length = ts.length → (keepT ts (bs.map not)).length = cnf bs := fun {bs} h => by
  rw [keepT_len (by rw [List.length_map]; exact h)]
  clear h
  induction bs with
  | nil => rfl
  | cons b bs ih => cases b <;> first | exact ih | exact congrArg (· + 1) ih
theorem keepT_snoc {α : Type} : ∀ (ts : List α) (bs : List Bool) (t : α) (b : Bool), bs.length = ts.length → keepT (ts ++ [t]) (bs ++ [b]) = keepT ts bs ++ (if b = true then [t] else [])
  | [], [], t, true, _ => rfl
  | [], [], t, false, _ => rfl
  | [], _ :: _, _, _, h => by simp at h
  | _ :: _, [], _, _, h => by simp at h
  | u :: ts, true :: bs, t, b, h => by
    show u :: keepT (ts ++ [t]) (bs ++ [b]) = u :: keepT ts bs ++ _
    rw [keepT_snoc ts bs t b (by simpa using h)]
    rfl
  | u :: ts, false :: bs, t, b, h => by
    show keepT (ts ++ [t]) (bs ++ [b]) = keepT ts bs ++ _
    exact keepT_snoc ts bs t b (by simpa using h)
theorem merge_keep {α : Type} : ∀ (ts : List α) (bs : List Bool), bs.length = ts.length → mergeT bs (keepT ts bs) (keepT ts (bs.map not)) = ts
  | [], [], _ => rfl
  | [], _ :: _, h => by simp at h
  | _ :: _, [], h => by simp at h
  | t :: ts, true :: bs, h => congrArg (t :: ·) (merge_keep ts bs (by simpa using h))
  | t :: ts, false :: bs, h => congrArg (t :: ·) (merge_keep ts bs (by simpa using h))
theorem merge_mem {α : Type} : ∀ {bs : List Bool} {us vs : List α} {t : α}, t ∈ mergeT bs us vs → t ∈ us ∨ t ∈ vs
  | [], _, _, _, h => absurd h (by simp [mergeT])
  | true :: bs, [], _, _, h => absurd h (by simp [mergeT])
  | false :: bs, us, [], _, h => absurd h (by cases us <;> simp [mergeT])
  | true :: bs, u :: us, vs, t, h => by
    rcases List.mem_cons.mp (show t ∈ u :: mergeT bs us vs from h) with z | z
    · rw [z]; exact .inl List.mem_cons_self
    · exact (merge_mem z).imp (List.mem_cons_of_mem _) id
  | false :: bs, us, v :: vs, t, h => by
    rcases List.mem_cons.mp (show t ∈ v :: mergeT bs us vs by cases us <;> exact h) with z | z
    · rw [z]; exact .inr List.mem_cons_self
    · exact (merge_mem z).imp id (List.mem_cons_of_mem _)
theorem pick_merge : ∀ (bs : List Bool) (pu us pv vs : List Th), cnt bs = us.length → cnf bs = vs.length → pick ((pu ++ us) ++ (pv ++ vs)) (mergeN bs pu.length ((pu ++ us).length + pv.length)) = mergeT bs us vs
  | [], _, us, _, vs, _, _ => by cases us <;> cases vs <;> rfl
  | true :: bs, pu, [], pv, vs, h, _ => by cases h
  | true :: bs, pu, u :: us, pv, vs, h1, h2 => by
    have ih := pick_merge bs (pu ++ [u]) us pv vs (by have : cnt bs + 1 = us.length + 1 := h1; omega) h2
    rw [List.length_append (bs := [u]), List.append_assoc pu [u] us] at ih
    show ((pu ++ u :: us) ++ (pv ++ vs)).getD pu.length .non :: pick ((pu ++ u :: us) ++ (pv ++ vs)) (mergeN bs (pu.length + 1) ((pu ++ u :: us).length + pv.length)) = u :: mergeT bs us vs
    rw [getD_of (show ((pu ++ u :: us) ++ (pv ++ vs))[pu.length]? = some u by rw [List.append_assoc, List.getElem?_append_right (Nat.le_refl _), Nat.sub_self]; rfl)]
    exact congrArg _ ih
  | false :: bs, pu, us, pv, [], _, h => by cases h
  | false :: bs, pu, us, pv, v :: vs, h1, h2 => by
    have ih := pick_merge bs pu us (pv ++ [v]) vs h1 (by have : cnf bs + 1 = vs.length + 1 := h2; omega)
    rw [List.length_append (bs := [v]), List.append_assoc pv [v] vs] at ih
    have e : mergeT (false :: bs) us (v :: vs) = v :: mergeT bs us vs := by cases us <;> rfl
    rw [e]
    show ((pu ++ us) ++ (pv ++ v :: vs)).getD ((pu ++ us).length + pv.length) .non :: pick ((pu ++ us) ++ (pv ++ v :: vs)) (mergeN bs pu.length ((pu ++ us).length + pv.length + 1)) = _
    rw [getD_of (show ((pu ++ us) ++ (pv ++ v :: vs))[(pu ++ us).length + pv.length]? = some v by rw [List.getElem?_append_right (by omega), Nat.add_sub_cancel_left, List.getElem?_append_right (Nat.le_refl _), Nat.sub_self]; rfl)]
    exact congrArg _ ih
theorem mergeN_lt : ∀ (bs : List Bool) (x y : Nat), ∀ m ∈ mergeN bs x y, (x ≤ m ∧ m < x + cnt bs) ∨ (y ≤ m ∧ m < y + cnf bs)
  | [], _, _, m, h => absurd h (by simp [mergeN])
  | true :: bs, x, y, m, h => by
    have ec : cnt (true :: bs) = cnt bs + 1 := rfl
    have ef : cnf (true :: bs) = cnf bs := rfl
    rw [ec, ef]
    rcases List.mem_cons.mp (show m ∈ x :: mergeN bs (x + 1) y from h) with z | z
    · left; omega
    · rcases mergeN_lt bs (x + 1) y m z with q | q
      · left; omega
      · right; omega
  | false :: bs, x, y, m, h => by
    have ec : cnt (false :: bs) = cnt bs := rfl
    have ef : cnf (false :: bs) = cnf bs + 1 := rfl
    rw [ec, ef]
    rcases List.mem_cons.mp (show m ∈ y :: mergeN bs x (y + 1) from h) with z | z
    · right; omega
    · rcases mergeN_lt bs x (y + 1) m z with q | q
      · left; omega
      · right; omega
theorem mergeN_len : ∀ (bs : List Bool) (x y : Nat), (mergeN bs x y).length = bs.length
  | [], _, _ => rfl
  | true :: bs, x, y => congrArg (· + 1) (mergeN_len bs (x + 1) y)
  | false :: bs, x, y => congrArg (· + 1) (mergeN_len bs x (y + 1))
theorem mergeN_snoc : ∀ (bs : List Bool) (b : Bool) (x y : Nat), mergeN (bs ++ [b]) x y = mergeN bs x y ++ [if b = true then x + cnt bs else y + cnf bs]
  | [], true, x, y => rfl
  | [], false, x, y => rfl
  | true :: bs, b, x, y => by
    show x :: mergeN (bs ++ [b]) (x + 1) y = x :: mergeN bs (x + 1) y ++ [if b = true then x + (cnt bs + 1) else y + cnf bs]
    rw [mergeN_snoc bs b (x + 1) y, show x + 1 + cnt bs = x + (cnt bs + 1) by omega]
    rfl
  | false :: bs, b, x, y => by
    show y :: mergeN (bs ++ [b]) x (y + 1) = y :: mergeN bs x (y + 1) ++ [if b = true then x + cnt bs else y + (cnf bs + 1)]
    rw [mergeN_snoc bs b x (y + 1), show y + 1 + cnf bs = y + (cnf bs + 1) by omega]
    rfl
theorem cnt_snoc (bs : List Bool) (b : Bool) : cnt (bs ++ [b]) = cnt bs + (if b = true then 1 else 0) := by unfold cnt; rw [List.filter_append, List.length_append]; cases b <;> rfl
theorem cnf_snoc (bs : List Bool) (b : Bool) : cnf (bs ++ [b]) = cnf bs + (if b = true then 0 else 1) := by unfold cnf; rw [List.filter_append, List.length_append]; cases b <;> rfl
theorem bools_get {bs : List Bool} {i : Nat} {x : V} (h : (bs.map V.bl)[i]? = some x) : ∃ b, bs[i]? = some b ∧ x = .bl b := by
  rw [List.getElem?_map] at h
  cases e : bs[i]? with
  | none => rw [e] at h; cases h
  | some n => rw [e] at h; exact ⟨n, rfl, (Option.some.inj h).symm⟩
theorem nodL_mem {B n : Nat} {ts : List Th} (h : ∀ u ∈ ts, nod u ≤ B) (hl : ts.length ≤ n) : nodL ts ≤ n * B := Nat.le_trans (nodL_le h) (Nat.mul_le_mul_right _ hl)
def spKept (K : PySem.W.Frag) (n : Nat) : Sp := fun vs H Q _ => ∃ (kv fv : V) (tb : Addr) (k : Kd) (ts : List Th) (bs : List Bool), vs = [kv, fv, .ref tb] ∧ Has K H k.th kv ∧ k.deep < n ∧ Has K H (flatT k ts) fv ∧ (∀ t ∈ ts, OfK k t ∧ nod t ≤ 8121) ∧ ts.length ≤ 60 ∧ H tb = some (.lst (bs.map V.bl)) ∧ bs.length = ts.length ∧
  ∀ v H', Same H H' → New K H H' (flatT k (keepT ts bs)) v → Q v H'
def spMerged (K : PySem.W.Frag) (n : Nat) : Sp := fun vs H Q _ => ∃ (kv v1 v2 : V) (tb : Addr) (k : Kd) (us vs' : List Th) (bs : List Bool), vs = [kv, .ref tb, v1, v2] ∧ Has K H k.th kv ∧ k.deep < n ∧ Has K H (flatT k us) v1 ∧ Has K H (flatT k vs') v2 ∧ (∀ t ∈ us, OfK k t ∧ nod t ≤ 8121) ∧ (∀ t ∈ vs', OfK k t ∧ nod t ≤ 8121) ∧ H tb = some (.lst (bs.map V.bl)) ∧ bs.length ≤ 60 ∧ cnt bs = us.length ∧ cnf bs = vs'.length ∧
  ∀ v H', Same H H' → New K H H' (flatT k (mergeT bs us vs')) v → Q v H'
section
variable {P : Program} {w : World} {K : PySem.W.Frag} {mg : Str → Option Value} {base : Heap} {f : Addr} {fd : FuncData}
theorem scKp : FnScope ["kind", "flat", "truths"] ["kind", "flat", "truths"] (defScope sKept) := ⟨rfl, rfl, rfl, by decide +kernel, rfl, by decide +kernel, by decide +kernel⟩
theorem ok_kept {n : Nat} {g : Addr} {gd : FuncData} (F : Fun K "kept" "kept" sKept f fd) (T : Txt mg)
    (G : FnOk P w K mg base CX0 (n + 1) g gd ["kind", "flat", "numbers"] (spTaken K n)) (bG : Binds K gd ["kind", "flat", "numbers"] []) (kG : PySem.W.keepIn K (.ref g) = true) (mG : mg "taken_there" = some (.ref g)) :
    FnOk P w K mg base CX0 (n + 2) f fd ["kind", "flat", "truths"] (spKept K n) := by
  refine F.ok scKp (fun vs H Q E h => ?_) (fun cdv A outer s H vs Q E hr h => ?_)
  · obtain ⟨kv, fv, tb, k, ts, bs, rfl, _⟩ := h
    rfl
  obtain ⟨kv, fv, tb, k, ts, bs, rfl, hk, hd, hf, ho, h60, htb, hbl, q⟩ := h
  refine ⟨_, pss_one (ps_ret (pe_call G hr rfl mG kG bG .nil pass0 (pa_cons (pv 0) (pa_cons (pv 1) (pa_cons
    (pe_comp2F (cl := []) (ys := []) (is := []) rfl (pi_enum rfl T.enum (pa_cons (pv 2) pa_nil)) (fun C s' H' fp => pv 0) (fun C s' H' fp => pt_val (pv 1)) (by with_unfolding_all rfl) ⟨rfl, by decide +kernel, by decide +kernel, by decide +kernel, by decide +kernel⟩ .nil rfl .nil) pa_nil))))), ?_⟩
  refine ⟨_, rfl, _, rfl, _, rfl, tb, rfl, ⟨_, SqL.of htb⟩, ?_⟩
  refine comp_enumF (K := K) (a := tb) (xs := bs.map V.bl) (fun i zs H2 => Same H H2 ∧ i ≤ bs.length ∧ zs = intsN (trueN 0 (bs.take i))) ⟨Same.refl _, Nat.zero_le _, rfl⟩ (fun i zs H2 h2 => SqL.of (h2.1 _ _ htb)) (fun i zs H2 h2 => ?_) (by rw [List.length_map]; exact ltK (by omega)) ?_ ?_
  · obtain ⟨_, hi, rfl⟩ := h2
    rw [intsN_len]
    have := cnt_le (bs.take i)
    have e : ∀ (cs : List Bool) (j : Nat), (trueN j cs).length ≤ cs.length := fun cs => by
      induction cs with
      | nil => intro j; exact Nat.le_refl _
      | cons c cs ih => intro j; cases c <;> first | exact Nat.le_succ_of_le (ih _) | exact Nat.succ_le_succ (ih _)
    have := e (bs.take i) 0
    rw [List.length_take] at this
    omega
  · rintro i x zs H2 p Qt Qf hx ⟨s2, hi, rfl⟩ hp kt kf
    obtain ⟨b, eb, rfl⟩ := bools_get hx
    have hi' : i < bs.length := (List.getElem?_eq_some_iff.mp eb).1
    have et : bs.take (i + 1) = bs.take i ++ [b] := by rw [List.take_add_one, eb]; rfl
    have u := same_upd hp (.tup [V.int (i : Int), V.bl b])
    have es := trueN_snoc (bs.take i) 0 b
    rw [List.length_take, Nat.min_eq_left hi, Nat.zero_add] at es
    refine ⟨_, rfl, _, rfl, ?_⟩
    cases b with
    | true =>
      rw [if_pos rfl] at es ⊢
      exact ⟨_, rfl, kt _ _ ⟨s2.trans u, hi', by rw [et, es, intsN_app]; rfl⟩⟩
    | false =>
      rw [if_neg Bool.false_ne_true] at es ⊢
      exact kf _ ⟨s2.trans u, hi', by rw [et, es, List.append_nil]⟩
  rintro zs H2 ⟨s2, _, rfl⟩ p hp
  rw [List.length_map, List.take_length]
  have u := same_upd hp (.lst (intsN (trueN 0 bs)))
  have S2 := s2.trans u
  have ep := pick_true [] ts bs hbl
  rw [List.nil_append] at ep
  have hlt : ∀ m ∈ trueN 0 bs, m < ts.length := fun m hm => by have := (trueN_lt bs 0 m hm).2; omega
  have hok : ∀ t ∈ ts, OfK k t := fun t ht => (ho t ht).1
  have n1 := nodL_mem (n := 60) (fun t ht => (ho t ht).2) h60
  have n2 : nodL (keepT ts bs) ≤ 60 * 8121 := nodL_mem (fun t ht => (ho t (keepT_mem ht)).2) (by rw [keepT_len hbl]; have := cnt_le bs; omega)
  refine ⟨kv, fv, p, k, ts, trueN 0 bs, rfl, hk.mono S2, hd, hf.mono S2, hok, by omega, upd_same, hlt, by rw [show trueN 0 bs = trueN ([] : List Th).length bs from rfl, ep]; omega, fun v H3 s3 n3 => ?_⟩
  rw [show trueN 0 bs = trueN ([] : List Th).length bs from rfl, ep] at n3
  exact q v H3 (S2.trans s3) (n3.weak S2)
theorem scMg : FnScope ["kind", "truths", "one", "other", "numbers", "ahead", "after", "truth"] ["kind", "truths", "one", "other"] (defScope sMerged) := ⟨rfl, rfl, rfl, by decide +kernel, rfl, by decide +kernel, by decide +kernel⟩
theorem ok_merged {n : Nat} {g gm gb : Addr} {gd gmd gbd : FuncData} (F : Fun K "merged" "merged" sMerged f fd) (T : Txt mg)
    (G : FnOk P w K mg base CX0 (n + 1) g gd ["kind", "flat", "numbers"] (spTaken K n)) (bG : Binds K gd ["kind", "flat", "numbers"] []) (kG : PySem.W.keepIn K (.ref g) = true) (mG : mg "taken_there" = some (.ref g))
    (M : FnOk P w K mg base CX0 n gm gmd ["kind", "flat"] (spMany K n)) (bM : Binds K gmd ["kind", "flat"] []) (kM : PySem.W.keepIn K (.ref gm) = true) (mM : mg "many_in" = some (.ref gm))
    (B : FnOk P w K mg base CX0 n gb gbd ["kind", "one", "other"] (spBehind K n)) (bB : Binds K gbd ["kind", "one", "other"] []) (kB : PySem.W.keepIn K (.ref gb) = true) (mB : mg "behind" = some (.ref gb)) :
    FnOk P w K mg base CX0 (n + 2) f fd ["kind", "truths", "one", "other"] (spMerged K n) := by
  refine F.ok scMg (fun vs H Q E h => ?_) (fun cdv A outer s H vs Q E hr h => ?_)
  · obtain ⟨kv, v1, v2, tb, k, us, vs', bs, rfl, _⟩ := h
    rfl
  obtain ⟨kv, v1, v2, tb, k, us, vs', bs, rfl, hk, hd, hf1, hf2, ho1, ho2, htb, h60, hc, hcf, q⟩ := h
  have hrn : Room n _ := hr.mono (by omega)
  refine ⟨_, pss_cons (ps_set (i := 4) scMg.nd rfl (Or.inl rfl) (pe_lst pa_nil))
    (pss_cons (ps_set (i := 5) scMg.nd rfl (Or.inl rfl) pe_int)
    (pss_cons (ps_set (i := 6) scMg.nd rfl (Or.inl rfl) (pe_call M hrn rfl mM kM bM .nil pass0 (pa_cons (pv 0) (pa_cons (pv 2) pa_nil))))
    (pss_cons (ps_for PassesOwn.never rfl (pi_list (pv 1)) (pg_name (i := 7) scMg.nd rfl (Or.inl rfl))
      (pss_one (ps_if (pt_val (pv 7))
        (pss_cons (ps_expr (pe_bm PySem.F.plainAttrs_list PySem.F.slot_list_append PySem.F.type_list_append mt_append (pv 4) (pa_cons (pv 5) pa_nil))) (pss_one (ps_set (i := 5) scMg.nd rfl (Or.inl rfl) (pe_op op_add (pv 5) pe_int))))
        (pss_cons (ps_expr (pe_bm PySem.F.plainAttrs_list PySem.F.slot_list_append PySem.F.type_list_append mt_append (pv 4) (pa_cons (pv 6) pa_nil))) (pss_one (ps_set (i := 6) scMg.nd rfl (Or.inl rfl) (pe_op op_add (pv 6) pe_int)))))))
    (pss_one (ps_ret (pe_call G hr rfl mG kG bG .nil pass0 (pa_cons (pv 0) (pa_cons (pe_call B hrn rfl mB kB bB .nil pass0 (pa_cons (pv 0) (pa_cons (pv 2) (pa_cons (pv 3) pa_nil)))) (pa_cons (pv 4) pa_nil))))))))), ?_⟩
  refine ⟨Nat.zero_le _, fun pn hpn => ?_⟩
  have u0 := same_upd hpn (.lst [])
  refine ⟨_, rfl, _, rfl, kv, v1, k, us, rfl, hk.mono u0, hd, hf1.mono u0, fun H1 s1 => ?_⟩
  have S1 := u0.trans s1
  refine ⟨_, rfl, tb, rfl, ⟨_, SqL.of (S1 _ _ htb)⟩, ?_⟩
  refine for_list (K := K) (a := tb) (xs := bs.map V.bl) (fun i σ H2 => i ≤ bs.length ∧ (∃ o7, σ = [some kv, some (.ref tb), some v1, some v2, some (.ref pn), some (.int ((cnt (bs.take i) : Nat) : Int)), some (.int ((us.length + cnf (bs.take i) : Nat) : Int)), o7]) ∧ Same H H2 ∧ H2 pn = some (.lst (intsN (mergeN (bs.take i) 0 us.length))))
    ⟨Nat.zero_le _, ⟨_, rfl⟩, S1, s1 _ _ upd_same⟩ (fun i σ H2 _ h2 => SqL.of (h2.2.2.1 _ _ htb)) ?_ ?_
  · rintro i x σ H2 hx ⟨hi, ⟨o7, rfl⟩, s2, h2⟩
    obtain ⟨b, eb, rfl⟩ := bools_get hx
    have hi' : i < bs.length := (List.getElem?_eq_some_iff.mp eb).1
    have et : bs.take (i + 1) = bs.take i ++ [b] := by rw [List.take_add_one, eb]; rfl
    have es := mergeN_snoc (bs.take i) b 0 us.length
    have ec := cnt_snoc (bs.take i) b
    have ef := cnf_snoc (bs.take i) b
    have hml : (intsN (mergeN (bs.take i) 0 us.length)).length < sizeLine := by rw [intsN_len, mergeN_len, List.length_take]; exact ltK (by omega)
    refine ⟨_, rfl, _, rfl, ?_⟩
    cases b with
    | true =>
      rw [if_pos rfl] at es ec ef
      rw [if_pos rfl]
      refine ⟨_, rfl, .inl ⟨rfl, _, SqL.of h2⟩, _, rfl, pn, _, _, rfl, rfl, h2, hml, ?_⟩
      refine ⟨_, rfl, _, _, rfl, rfl, hi', ⟨some (.bl true), ?_⟩, Same.own s2 hpn _, ?_⟩
      · rw [et, ec, ef]
        rfl
      · rw [upd_same, et, es, intsN_app, Nat.zero_add]
        rfl
    | false =>
      rw [if_neg Bool.false_ne_true] at es ec ef
      rw [if_neg Bool.false_ne_true]
      refine ⟨_, rfl, .inl ⟨rfl, _, SqL.of h2⟩, _, rfl, pn, _, _, rfl, rfl, h2, hml, ?_⟩
      refine ⟨_, rfl, _, _, rfl, rfl, hi', ⟨some (.bl false), ?_⟩, Same.own s2 hpn _, ?_⟩
      · rw [et, ec, ef]
        rfl
      · rw [upd_same, et, es, intsN_app]
        rfl
  rintro σ H2 ⟨_, ⟨o7, rfl⟩, s2, h2⟩
  rw [List.length_map, List.take_length] at h2
  have hcl := cnt_le bs
  have hok1 : ∀ t ∈ us, OfK k t := fun t ht => (ho1 t ht).1
  have hok2 : ∀ t ∈ vs', OfK k t := fun t ht => (ho2 t ht).1
  have n1 : nodL us ≤ 60 * 8121 := nodL_mem (fun t ht => (ho1 t ht).2) (by omega)
  have n2 : nodL vs' ≤ 60 * 8121 := nodL_mem (fun t ht => (ho2 t ht).2) (by omega)
  have ep := pick_merge bs [] us [] vs' hc hcf
  rw [List.nil_append, List.nil_append] at ep
  have en : mergeN bs ([] : List Th).length (us.length + ([] : List Th).length) = mergeN bs 0 us.length := rfl
  rw [en] at ep
  have n3 : nodL (mergeT bs us vs') ≤ 60 * 8121 := nodL_mem (fun t ht => (merge_mem ht).elim (fun z => (ho1 t z).2) fun z => (ho2 t z).2) (by rw [← ep, pick_len, mergeN_len]; exact h60)
  refine ⟨_, rfl, _, rfl, _, rfl, _, rfl, kv, v1, v2, k, us, vs', rfl, hk.mono s2, hd, hf1.mono s2, hf2.mono s2, hok1, hok2, by omega, fun fb H3 s3 n4 => ?_⟩
  refine ⟨_, rfl, kv, fb, pn, k, us ++ vs', mergeN bs 0 us.length, rfl, hk.mono (s2.trans s3), hd, n4.has, fun t ht => (List.mem_append.mp ht).elim (hok1 t) (hok2 t), by rw [nodL_app]; omega, s3 _ _ h2, fun m hm => ?_, by rw [ep]; omega, fun v H4 s4 n5 => ?_⟩
  · rw [List.length_append]
    rcases mergeN_lt bs 0 us.length m hm with z | z <;> omega
  · rw [ep] at n5
    exact q v H4 (s2.trans (s3.trans s4)) (n5.weak (s2.trans s3))
end
/-! ### _law_put -/
theorem merge_has {K : PySem.W.Frag} {H : Hp} : ∀ {bs : List Bool} {us vs : List Th} {xs ys : List V}, HasL K H us xs → HasL K H vs ys → HasL K H (mergeT bs us vs) (mergeT bs xs ys)
  | [], us, vs, xs, ys, _, _ => by cases us <;> cases vs <;> cases xs <;> cases ys <;> exact HasL.nil
  | true :: bs, [], vs, _, ys, h, _ => by
    have e : _ = [] := h
    rw [e]
    exact HasL.nil
  | true :: bs, u :: us, vs, _, ys, ⟨v, r, e, h1, h2⟩, g => by
    rw [e]
    exact HasL.cons h1 (merge_has h2 g)
  | false :: bs, us, [], xs, _, h, g => by
    have e : _ = [] := g
    rw [e]
    cases us <;> cases xs <;> exact HasL.nil
  | false :: bs, us, u :: vs, xs, _, h, ⟨v, r, e, h1, h2⟩ => by
    rw [e]
    have e1 : mergeT (false :: bs) us (u :: vs) = u :: mergeT bs us vs := by cases us <;> rfl
    have e2 : mergeT (false :: bs) xs (v :: r) = v :: mergeT bs xs r := by cases xs <;> rfl
    rw [e1, e2]
    exact HasL.cons h1 (merge_has h h2)
theorem idx0 {α : Type} (x : α) (r : List α) : seqIndex? 0 (x :: r).length = some 0 := by
  unfold seqIndex?
  simp
def spPut (K : PySem.W.Frag) : Sp := fun vs H Q _ => ∃ (tb oa ob : Addr) (bs : List Bool) (us vs' : List Th) (xs ys : List V), vs = [.ref tb, .ref oa, .ref ob] ∧ H tb = some (.lst (bs.map V.bl)) ∧ H oa = some (.lst xs) ∧ H ob = some (.lst ys) ∧ HasL K H us xs ∧ HasL K H vs' ys ∧ cnt bs = us.length ∧ cnf bs = vs'.length ∧ bs.length ≤ 60 ∧
  ∀ l dv H', Same H H' → H' l = some (.lst dv) → HasL K H' (mergeT bs us vs') dv → Q (.ref l) H'
section
variable {P : Program} {w : World} {K : PySem.W.Frag} {mg : Str → Option Value} {base : Heap} {f : Addr} {fd : FuncData}
theorem scPu : FnScope ["truths", "one", "other", "due", "mine", "yours", "truth"] ["truths", "one", "other"] (defScope sPut) := ⟨rfl, rfl, rfl, by decide +kernel, rfl, by decide +kernel, by decide +kernel⟩
theorem ok_put (F : Fun K "_law_put" "_law_put" sPut f fd) (T : Txt mg) : FnOk P w K mg base CX0 1 f fd ["truths", "one", "other"] (spPut K) := by
  refine F.ok scPu (fun vs H Q E h => ?_) (fun cdv A outer s H vs Q E hr h => ?_)
  · obtain ⟨tb, oa, ob, bs, us, vs', xs, ys, rfl, _⟩ := h
    rfl
  obtain ⟨tb, oa, ob, bs, us, vs', xs, ys, rfl, htb, hoa, hob, hu, hv, hc, hcf, h60, q⟩ := h
  have lu := hu.length
  have lv := hv.length
  refine ⟨_, pss_cons (ps_set (i := 3) scPu.nd rfl (Or.inl rfl) (pe_lst pa_nil))
    (pss_cons (ps_set (i := 4) scPu.nd rfl (Or.inl rfl) (pe_callTy call_list_of rfl T.list PyProof.Rows.boot_list (pa_cons (pv 1) pa_nil)))
    (pss_cons (ps_set (i := 5) scPu.nd rfl (Or.inl rfl) (pe_callTy call_list_of rfl T.list PyProof.Rows.boot_list (pa_cons (pv 2) pa_nil)))
    (pss_cons (ps_for PassesOwn.never rfl (pi_list (pv 0)) (pg_name (i := 6) scPu.nd rfl (Or.inl rfl))
      (pss_one (ps_if (pt_val (pv 6))
        (pss_one (ps_expr (pe_bm PySem.F.plainAttrs_list PySem.F.slot_list_append PySem.F.type_list_append mt_append (pv 3) (pa_cons (pe_bm PySem.F.plainAttrs_list PySem.F.slot_list_pop PySem.F.type_list_pop mt_popAt (pv 4) (pa_cons pe_int pa_nil)) pa_nil))))
        (pss_one (ps_expr (pe_bm PySem.F.plainAttrs_list PySem.F.slot_list_append PySem.F.type_list_append mt_append (pv 3) (pa_cons (pe_bm PySem.F.plainAttrs_list PySem.F.slot_list_pop PySem.F.type_list_pop mt_popAt (pv 5) (pa_cons pe_int pa_nil)) pa_nil)))))))
    (pss_one (ps_ret (pv 3)))))), ?_⟩
  refine ⟨Nat.zero_le _, fun pd gd => ?_⟩
  have u1 := same_upd gd (.lst [])
  refine ⟨_, rfl, oa, xs, rfl, .inl (SqL.of (u1 _ _ hoa)), fun pm gm => ?_⟩
  have u2 := same_upd gm (.lst xs)
  refine ⟨_, rfl, ob, ys, rfl, .inl (SqL.of ((u1.trans u2) _ _ hob)), fun py gy => ?_⟩
  have u3 := same_upd gy (.lst ys)
  have S3 := u1.trans (u2.trans u3)
  have fm : H pm = none := none_back u1 gm
  have fy : H py = none := none_back (u1.trans u2) gy
  have n1 : pm ≠ pd := fun e => by rw [e, upd_same] at gm; cases gm
  have n2 : py ≠ pd := fun e => by rw [e, u2 _ _ (upd_same (H := H) (a := pd) (o := .lst []))] at gy; cases gy
  have n3 : py ≠ pm := fun e => by rw [e, upd_same] at gy; cases gy
  have hd3 : upd (upd (upd H pd (.lst [])) pm (.lst xs)) py (.lst ys) pd = some (.lst []) := u3 _ _ (u2 _ _ upd_same)
  have hm3 : upd (upd (upd H pd (.lst [])) pm (.lst xs)) py (.lst ys) pm = some (.lst xs) := u3 _ _ upd_same
  have hy3 : upd (upd (upd H pd (.lst [])) pm (.lst xs)) py (.lst ys) py = some (.lst ys) := upd_same
  generalize upd (upd (upd H pd (.lst [])) pm (.lst xs)) py (.lst ys) = H3 at S3 hd3 hm3 hy3 ⊢
  refine ⟨_, rfl, tb, rfl, ⟨_, SqL.of (S3 _ _ htb)⟩, ?_⟩
  refine for_list (K := K) (a := tb) (xs := bs.map V.bl) (fun i σ H4 => i ≤ bs.length ∧ (∃ o, σ = [some (.ref tb), some (.ref oa), some (.ref ob), some (.ref pd), some (.ref pm), some (.ref py), o]) ∧ Same H H4 ∧ ∃ dv m1 m2, H4 pd = some (.lst dv) ∧ H4 pm = some (.lst m1) ∧ H4 py = some (.lst m2) ∧ dv.length = i ∧ dv ++ mergeT (bs.drop i) m1 m2 = mergeT bs xs ys ∧ cnt (bs.drop i) = m1.length ∧ cnf (bs.drop i) = m2.length)
    ⟨Nat.zero_le _, ⟨_, rfl⟩, S3, [], xs, ys, hd3, hm3, hy3, rfl, rfl, by rw [List.drop_zero]; omega, by rw [List.drop_zero]; omega⟩ (fun i σ H4 _ h4 => SqL.of (h4.2.2.1 _ _ htb)) ?_ ?_
  · rintro i x σ H4 hx ⟨hi, ⟨o, rfl⟩, s4, dv, m1, m2, hd, hm, hy, hdl, hmg, hc1, hc2⟩
    obtain ⟨b, eb, rfl⟩ := bools_get hx
    have hi' : i < bs.length := (List.getElem?_eq_some_iff.mp eb).1
    have ed : bs.drop i = b :: bs.drop (i + 1) := by rw [List.drop_eq_getElem_cons hi', (List.getElem?_eq_some_iff.mp eb).2]
    rw [ed] at hmg hc1 hc2
    refine ⟨_, rfl, _, rfl, ?_⟩
    cases b with
    | true =>
      rw [if_pos rfl]
      have hc1' : cnt (bs.drop (i + 1)) + 1 = m1.length := hc1
      obtain ⟨z, m1', rfl⟩ : ∃ z m1', m1 = z :: m1' := by
        cases m1 with
        | nil => cases hc1
        | cons z m => exact ⟨z, m, rfl⟩
      have hmg' : dv ++ z :: mergeT (bs.drop (i + 1)) m1' m2 = mergeT bs xs ys := hmg
      refine ⟨_, rfl, .inl ⟨rfl, _, SqL.of hd⟩, _, rfl, .inl ⟨rfl, _, SqL.of hm⟩, pm, _, 0, 0, z, rfl, rfl, hm, by decide, by decide, idx0 z m1', rfl, ?_⟩
      refine ⟨pd, dv, _, rfl, rfl, by rw [upd_ne (Ne.symm n1)]; exact hd, ltK (by omega), ?_⟩
      refine ⟨hi', ⟨_, rfl⟩, Same.own (Same.own s4 fm _) gd _, dv ++ [z], m1', m2, upd_same, by rw [upd_ne n1, upd_same]; rfl, by rw [upd_ne n2, upd_ne n3]; exact hy, by rw [List.length_append, hdl]; rfl, by rw [List.append_assoc]; exact hmg', by rw [List.length_cons] at hc1'; omega, hc2⟩
    | false =>
      rw [if_neg Bool.false_ne_true]
      have hc2' : cnf (bs.drop (i + 1)) + 1 = m2.length := hc2
      obtain ⟨z, m2', rfl⟩ : ∃ z m2', m2 = z :: m2' := by
        cases m2 with
        | nil => cases hc2
        | cons z m => exact ⟨z, m, rfl⟩
      have hmg' : dv ++ z :: mergeT (bs.drop (i + 1)) m1 m2' = mergeT bs xs ys := by
        have e2 : mergeT (false :: bs.drop (i + 1)) m1 (z :: m2') = z :: mergeT (bs.drop (i + 1)) m1 m2' := by cases m1 <;> rfl
        rw [e2] at hmg
        exact hmg
      refine ⟨_, rfl, .inl ⟨rfl, _, SqL.of hd⟩, _, rfl, .inl ⟨rfl, _, SqL.of hy⟩, py, _, 0, 0, z, rfl, rfl, hy, by decide, by decide, idx0 z m2', rfl, ?_⟩
      refine ⟨pd, dv, _, rfl, rfl, by rw [upd_ne (Ne.symm n2)]; exact hd, ltK (by omega), ?_⟩
      refine ⟨hi', ⟨_, rfl⟩, Same.own (Same.own s4 fy _) gd _, dv ++ [z], m1, m2', upd_same, by rw [upd_ne n1, upd_ne (Ne.symm n3)]; exact hm, by rw [upd_ne n2, upd_same]; rfl, by rw [List.length_append, hdl]; rfl, by rw [List.append_assoc]; exact hmg', hc1, by rw [List.length_cons] at hc2'; omega⟩
  rintro σ H4 ⟨_, ⟨o, rfl⟩, s4, dv, m1, m2, hd, hm, hy, hdl, hmg, hc1, hc2⟩
  rw [List.length_map, List.drop_length] at hmg
  have e0 : mergeT ([] : List Bool) m1 m2 = [] := by cases m1 <;> cases m2 <;> rfl
  rw [e0, List.append_nil] at hmg
  exact ⟨_, rfl, q pd dv H4 s4 hd (by rw [hmg]; exact (merge_has hu hv).mono s4)⟩
end
-- CUT
/-! ### law -/
theorem bools_has {K : PySem.W.Frag} {H : Hp} : ∀ bs : List Bool, HasL K H (bs.map Th.bl) (bs.map V.bl)
  | [] => HasL.nil
  | _ :: bs => HasL.cons rfl (bools_has bs)
theorem bools_ws (bs : List Bool) (h : bs.length ≤ 1000000) : WS 2 (.lst (bs.map Th.bl)) := ⟨by rw [List.length_map]; exact h, fun u hu => by obtain ⟨n, _, rfl⟩ := List.mem_map.mp hu; trivial⟩
theorem sb_sbs {a : Addr} {H H' : Hp} (s : SB a H H') : SBs [a] H H' := fun b u n q => s b u (fun e => n (by rw [e]; exact List.mem_singleton.mpr rfl)) q
theorem tape_lst {H : Hp} {a : Addr} {N : Nat} (t : Tape H a N) : ∀ b ∈ [a], ∃ zs, H b = some (.lst zs) := fun b hb => by
  obtain ⟨_, _, _, _, _, h1, _⟩ := t
  rw [List.mem_singleton.mp hb]
  exact ⟨_, h1⟩
theorem keep_has {K : PySem.W.Frag} {H : Hp} {F : Addr → Prop} : ∀ {ts : List Th} {ys : List V} (bs : List Bool), HasFL K H F ts ys → HasFL K H F (keepT ts bs) (keepT ys bs)
  | [], _, bs, h => by
    have e : _ = [] := h
    rw [e]
    cases bs <;> exact HasFL.nil
  | _ :: _, _, [], ⟨v, r, e, _, _⟩ => by rw [e]; exact HasFL.nil
  | _ :: _, _, true :: bs, ⟨v, r, e, h1, h2⟩ => by rw [e]; exact HasFL.cons h1 (keep_has bs h2)
  | _ :: _, _, false :: bs, ⟨v, r, e, h1, h2⟩ => by rw [e]; exact keep_has bs h2
/-- a thing that is new since H0, where the tape was there: it stays when the tape turns -/
theorem New.turn {K : PySem.W.Frag} {H0 H H' : Hp} {t : Th} {v : V} {a : Addr} {N : Nat} (n : New K H0 H t v) (h0 : H0 a ≠ none) (tp : Tape H a N) (s : SB a H H') : New K H0 H' t v := by
  obtain ⟨as, a1, a2, a3⟩ := n
  exact ⟨as, HasA.kept (sb_sbs s) (tape_lst tp) a1 fun b hb z => h0 (by rw [← List.mem_singleton.mp z]; exact a3 b hb), a2, a3⟩
section
variable {P : Program} {w : World} {K : PySem.W.Frag} {mg : Str → Option Value} {base : Heap} {f : Addr} {fd : FuncData}
theorem scL : FnScope ["script", "tape", "kind", "many", "way", "worths", "truths", "flat", "handed", "one", "other", "mine", "yours", "more", "due", "told"] ["script"] (defScope sLaw) := ⟨rfl, rfl, rfl, by decide +kernel, rfl, by decide +kernel, by decide +kernel⟩
theorem ok_law {fD fK fW fF fR fM fP fA fS : Addr} {dD dK dW dF dR dM dP dA dS : FuncData} (F : Fun K "law" "law" sLaw f fd) (T : Txt mg)
    (GD : FnOk P w K mg base CX0 2 fD dD ["tape", "many"] spDraw) (bD : Binds K dD ["tape", "many"] []) (kD : PySem.W.keepIn K (.ref fD) = true) (mD : mg "_law_draw" = some (.ref fD))
    (GK : FnOk P w K mg base CX0 7 fK dK ["tape", "left"] (spKind K 5)) (bK : Binds K dK ["tape", "left"] []) (kK : PySem.W.keepIn K (.ref fK) = true) (mK : mg "_law_kind" = some (.ref fK))
    (GW : FnOk P w K mg base CX0 8 fW dW ["tape", "kind", "long"] (spWorth K 5)) (bW : Binds K dW ["tape", "kind", "long"] [.bool true]) (kW : PySem.W.keepIn K (.ref fW) = true) (mW : mg "_law_worth" = some (.ref fW))
    (GF : FnOk P w K mg base CX0 5 fF dF ["kind", "worths"] (spFlat K 5)) (bF : Binds K dF ["kind", "worths"] []) (kF : PySem.W.keepIn K (.ref fF) = true) (mF : mg "flat_of" = some (.ref fF))
    (GR : FnOk P w K mg base CX0 7 fR dR ["kind", "flat", "truths"] (spKept K 5)) (bR : Binds K dR ["kind", "flat", "truths"] []) (kR : PySem.W.keepIn K (.ref fR) = true) (mR : mg "kept" = some (.ref fR))
    (GM : FnOk P w K mg base CX0 7 fM dM ["kind", "truths", "one", "other"] (spMerged K 5)) (bM : Binds K dM ["kind", "truths", "one", "other"] []) (kM : PySem.W.keepIn K (.ref fM) = true) (mM : mg "merged" = some (.ref fM))
    (GP : FnOk P w K mg base CX0 1 fP dP ["truths", "one", "other"] (spPut K)) (bP : Binds K dP ["truths", "one", "other"] []) (kP : PySem.W.keepIn K (.ref fP) = true) (mP : mg "_law_put" = some (.ref fP))
    (GA : FnOk P w K mg base CX0 6 fA dA ["due", "found"] (spAlike K 6)) (bA : Binds K dA ["due", "found"] []) (kA : PySem.W.keepIn K (.ref fA) = true) (mA : mg "_law_alike" = some (.ref fA))
    (GS : FnOk P w K mg base CX0 6 fS dS ["thing"] (spSpoil K 6)) (bS : Binds K dS ["thing"] []) (kS : PySem.W.keepIn K (.ref fS) = true) (mS : mg "_law_spoil" = some (.ref fS)) :
    FnOk P w K mg base CX0 9 f fd ["script"] (spLaw K) := by
  refine F.ok scL (fun vs H Q E h => ?_) (fun cdv A outer s H vs Q E hr h => ?_)
  · obtain ⟨a, ns, rfl, _⟩ := h
    rfl
  obtain ⟨a, ns, rfl, hS, h63, q⟩ := h
  have hr1 : Room 1 _ := hr.mono (by decide)
  have hr2 : Room 2 _ := hr.mono (by decide)
  have hr5 : Room 5 _ := hr.mono (by decide)
  have hr6 : Room 6 _ := hr.mono (by decide)
  have hr7 : Room 7 _ := hr.mono (by decide)
  have hu := hr.units
  refine ⟨_, pss_cons (ps_set (i := 1) scL.nd rfl (Or.inr rfl) (pe_lst (pa_cons (pe_callTy call_list_of rfl T.list PyProof.Rows.boot_list (pa_cons (pe_slice sl_list (pv 0) po_none (po_some pe_int)) pa_nil)) (pa_cons pe_int (pa_cons pe_int (pa_cons pe_int pa_nil))))))
    (pss_cons (ps_set (i := 2) scL.nd rfl (Or.inr rfl) (pe_call GK hr7 rfl mK kK bK .nil pass0 (pa_cons (pv 1) (pa_cons (pe_op op_add pe_int (pe_call GD hr2 rfl mD kD bD .nil pass0 (pa_cons (pv 1) (pa_cons pe_int pa_nil)))) pa_nil))))
    (pss_cons (ps_set (i := 3) scL.nd rfl (Or.inl rfl) (pe_call GD hr2 rfl mD kD bD .nil pass0 (pa_cons (pv 1) (pa_cons pe_int pa_nil))))
    (pss_cons (ps_set (i := 4) scL.nd rfl (Or.inr rfl) (pe_call GD hr2 rfl mD kD bD .nil pass0 (pa_cons (pv 1) (pa_cons pe_int pa_nil))))
    (pss_cons (ps_comp (j := 5) scL.nd rfl (Or.inl rfl) (by with_unfolding_all rfl) (cl := [("tape", s.heap.objs.size + 1), ("kind", s.heap.objs.size + 2)]) (ys := ["kind", "tape"]) (is := [2, 1]) rfl (pi_range1 rfl T.range (pa_cons (pv 3) pa_nil))
      (fun C s' H' fp => pe_call GW hr rfl mW kW bW dflt_true pass0 (pa_cons (pv 2) (pa_cons (pv 1) pa_nil))) (by with_unfolding_all rfl) ⟨rfl, by decide +kernel, by decide +kernel, by decide +kernel, by decide +kernel⟩ (.cons rfl (.cons rfl .nil)) rfl
      (.cons rfl (.inr (.inl rfl)) (.inl rfl) rfl rfl (.inl rfl) (.cons rfl (.inr (.inl rfl)) (.inl rfl) rfl rfl (.inl rfl) .nil)))
    (pss_cons (ps_comp (j := 6) scL.nd rfl (Or.inl rfl) (by with_unfolding_all rfl) (cl := [("tape", s.heap.objs.size + 1)]) (ys := ["tape"]) (is := [1]) rfl (pi_range1 rfl T.range (pa_cons (pv 3) pa_nil))
      (fun C s' H' fp => pe_cmpR op_eq (pe_call GD hr2 rfl mD kD bD .nil pass0 (pa_cons (pv 1) (pa_cons pe_int pa_nil))) pe_int (nomark _)) (by with_unfolding_all rfl) ⟨rfl, by decide +kernel, by decide +kernel, by decide +kernel, by decide +kernel⟩ (.cons rfl .nil) rfl (.cons rfl (.inr (.inl rfl)) (.inl rfl) rfl rfl (.inl rfl) .nil))
    (pss_cons (ps_if (pt_cmpR op_lt (pv 4) pe_int (nomark _)) (pss_one (ps_comp (j := 6) scL.nd rfl (Or.inl rfl) (by with_unfolding_all rfl) (cl := [("way", s.heap.objs.size + 3)]) (ys := ["way"]) (is := [4]) rfl (pi_range1 rfl T.range (pa_cons (pv 3) pa_nil))
      (fun C s' H' fp => pe_cmpR op_eq (pv 1) pe_int (nomark _)) (by with_unfolding_all rfl) ⟨rfl, by decide +kernel, by decide +kernel, by decide +kernel, by decide +kernel⟩ (.cons rfl .nil) rfl (.cons rfl (.inr (.inl rfl)) (.inl rfl) rfl rfl (.inl rfl) .nil))) pss_nil)
    (pss_weak (t' := fun D' σ H2 => ∃ (ta pw tb : Addr) (kv : V) (k : Kd) (ts : List Th) (ys : List V) (bs : List Bool) (o3 o4 : Option V) (N2 : Nat), σ = [some (.ref a), some (.ref ta), some kv, o3, o4, some (.ref pw), some (.ref tb), none, none, none, none, none, none, none, none, none] ∧ Tape H2 ta N2 ∧ N2 < 800000000000000000 ∧ HasN K H2 ta k.th kv ∧ k.deep ≤ 4 ∧
        H2 pw = some (.lst ys) ∧ pw ≠ ta ∧ HasFL K H2 (fun b => b ≠ ta) ts ys ∧ (∀ t ∈ ts, OfK k t ∧ nod t ≤ 8121) ∧ ts.length ≤ 8 ∧ H2 tb = some (.lst (bs.map V.bl)) ∧ tb ≠ ta ∧ bs.length = ts.length ∧ ∀ H', D'.rt (.bl true) H')
      (pss_cons (ps_set (i := 7) scL.nd rfl (Or.inl rfl) (pe_call GF hr5 rfl mF kF bF .nil pass0 (pa_cons (pv 2) (pa_cons (pv 5) pa_nil))))
      (pss_cons (ps_set (i := 8) scL.nd rfl (Or.inl rfl) (pe_callTy call_list_of rfl T.list PyProof.Rows.boot_list (pa_cons (pv 6) pa_nil)))
      (pss_cons (ps_set (i := 9) scL.nd rfl (Or.inl rfl) (pe_call GR hr7 rfl mR kR bR .nil pass0 (pa_cons (pv 2) (pa_cons (pv 7) (pa_cons (pv 8) pa_nil)))))
      (pss_cons (ps_set (i := 10) scL.nd rfl (Or.inl rfl) (pe_call GR hr7 rfl mR kR bR .nil pass0 (pa_cons (pv 2) (pa_cons (pv 7) (pa_cons
        (pe_comp (cl := []) (ys := []) (is := []) rfl (pi_list (pv 6)) (fun C s' H' fp => pe_not (pv 0)) (by with_unfolding_all rfl) ⟨rfl, by decide +kernel, by decide +kernel, by decide +kernel, by decide +kernel⟩ .nil rfl .nil) pa_nil)))))
      (pss_cons (ps_comp2F (jz := 11) scL.nd rfl (Or.inl rfl) (by with_unfolding_all rfl) (cl := []) (ys := []) (is := []) rfl (pi_zip rfl T.zip (pa_cons (pv 5) (pa_cons (pv 6) pa_nil))) (fun C s' H' fp => pv 0) (fun C s' H' fp => pt_val (pv 1)) (by with_unfolding_all rfl) ⟨rfl, by decide +kernel, by decide +kernel, by decide +kernel, by decide +kernel⟩ .nil rfl .nil)
      (pss_cons (ps_comp2F (jz := 12) scL.nd rfl (Or.inl rfl) (by with_unfolding_all rfl) (cl := []) (ys := []) (is := []) rfl (pi_zip rfl T.zip (pa_cons (pv 5) (pa_cons (pv 6) pa_nil))) (fun C s' H' fp => pv 0) (fun C s' H' fp => pt_not (pt_val (pv 1))) (by with_unfolding_all rfl) ⟨rfl, by decide +kernel, by decide +kernel, by decide +kernel, by decide +kernel⟩ .nil rfl .nil)
      (pss_cons (ps_if (pt_not (pt_val (pe_call GA hr6 rfl mA kA bA .nil pass0 (pa_cons (pe_call GF hr5 rfl mF kF bF .nil pass0 (pa_cons (pv 2) (pa_cons (pv 11) pa_nil))) (pa_cons (pv 9) pa_nil))))) (pss_one (ps_ret pe_bl)) pss_nil)
      (pss_cons (ps_if (pt_not (pt_val (pe_call GA hr6 rfl mA kA bA .nil pass0 (pa_cons (pe_call GF hr5 rfl mF kF bF .nil pass0 (pa_cons (pv 2) (pa_cons (pv 12) pa_nil))) (pa_cons (pv 10) pa_nil))))) (pss_one (ps_ret pe_bl)) pss_nil)
      (pss_cons (ps_if (pt_not (pt_val (pe_call GA hr6 rfl mA kA bA .nil pass0 (pa_cons (pe_call GF hr5 rfl mF kF bF .nil pass0 (pa_cons (pv 2) (pa_cons (pv 5) pa_nil))) (pa_cons (pe_call GM hr7 rfl mM kM bM .nil pass0 (pa_cons (pv 2) (pa_cons (pv 8) (pa_cons (pv 9) (pa_cons (pv 10) pa_nil))))) pa_nil))))) (pss_one (ps_ret pe_bl)) pss_nil)
      (pss_cons (ps_comp (j := 13) scL.nd rfl (Or.inl rfl) (by with_unfolding_all rfl) (cl := [("tape", s.heap.objs.size + 1), ("kind", s.heap.objs.size + 2)]) (ys := ["kind", "tape"]) (is := [2, 1]) rfl (pi_range1 rfl T.range (pa_cons (pe_callB call_len_seq rfl T.len PySem.boot_len (pa_cons (pv 12) pa_nil)) pa_nil))
        (fun C s' H' fp => pe_call GW hr rfl mW kW bW dflt_true pass0 (pa_cons (pv 2) (pa_cons (pv 1) pa_nil))) (by with_unfolding_all rfl) ⟨rfl, by decide +kernel, by decide +kernel, by decide +kernel, by decide +kernel⟩ (.cons rfl (.cons rfl .nil)) rfl
        (.cons rfl (.inr (.inl rfl)) (.inl rfl) rfl rfl (.inl rfl) (.cons rfl (.inr (.inl rfl)) (.inl rfl) rfl rfl (.inl rfl) .nil)))
      (pss_cons (ps_set (i := 14) scL.nd rfl (Or.inl rfl) (pe_call GP hr1 rfl mP kP bP .nil pass0 (pa_cons (pv 6) (pa_cons (pv 11) (pa_cons (pv 13) pa_nil)))))
      (pss_cons (ps_set (i := 15) scL.nd rfl (Or.inl rfl) (pe_call GM hr7 rfl mM kM bM .nil pass0 (pa_cons (pv 2) (pa_cons (pv 8) (pa_cons (pv 9) (pa_cons (pe_call GF hr5 rfl mF kF bF .nil pass0 (pa_cons (pv 2) (pa_cons (pv 13) pa_nil))) pa_nil))))))
      (pss_cons (ps_if (PW.pt (pw_or (pt_not (pt_val (pe_call GA hr6 rfl mA kA bA .nil pass0 (pa_cons (pe_call GF hr5 rfl mF kF bF .nil pass0 (pa_cons (pv 2) (pa_cons (pv 14) pa_nil))) (pa_cons (pv 15) pa_nil))))) (pw_or1 (pt_cmpR (op_neTh hu) (pv 8) (pv 6) (nomark _))))) (pss_one (ps_ret pe_bl)) pss_nil)
      (pss_cons (ps_expr (pe_call GS hr6 rfl mS kS bS .nil pass0 (pa_cons (pv 15) pa_nil)))
      (pss_cons (ps_if (pt_not (pt_val (pe_call GA hr6 rfl mA kA bA .nil pass0 (pa_cons (pe_call GF hr5 rfl mF kF bF .nil pass0 (pa_cons (pv 2) (pa_cons (pv 11) pa_nil))) (pa_cons (pv 9) pa_nil))))) (pss_one (ps_ret pe_bl)) pss_nil)
      (pss_cons (ps_expr (pe_call GS hr6 rfl mS kS bS .nil pass0 (pa_cons (pe_call GM hr7 rfl mM kM bM .nil pass0 (pa_cons (pv 2) (pa_cons (pv 8) (pa_cons (pv 9) (pa_cons (pv 10) pa_nil))))) pa_nil)))
      (pss_cons (ps_if (pt_not (pt_val (pe_call GA hr6 rfl mA kA bA .nil pass0 (pa_cons (pe_call GF hr5 rfl mF kF bF .nil pass0 (pa_cons (pv 2) (pa_cons (pv 12) pa_nil))) (pa_cons (pv 10) pa_nil))))) (pss_one (ps_ret pe_bl)) pss_nil)
      (pss_cons (ps_expr (pe_call GS hr6 rfl mS kS bS .nil pass0 (pa_cons (pv 9) pa_nil)))
      (pss_cons (ps_expr (pe_call GS hr6 rfl mS kS bS .nil pass0 (pa_cons (pv 10) pa_nil)))
      (pss_one (ps_ret (pe_call GA hr6 rfl mA kA bA .nil pass0 (pa_cons (pe_call GF hr5 rfl mF kF bF .nil pass0 (pa_cons (pv 2) (pa_cons (pv 5) pa_nil))) (pa_cons (pv 7) pa_nil)))))))))))))))))))))))) ?hrest))))))), ?main⟩
  case hrest =>
    rintro D' σ H2 ⟨ta, pw, tb, kv, k, ts, ys, bs, o3, o4, N2, rfl, t2, hN2, gk, hk4, hpw, npw, hL, ho, hl8, htb, ntb, hbl, fin⟩
    have hok : ∀ t ∈ ts, OfK k t := fun t ht => (ho t ht).1
    have n1 : nodL ts ≤ 60 * 8121 := nodL_mem (fun t ht => (ho t ht).2) (by omega)
    have hyl : ys.length = ts.length := hL.length
    have hcc := cnt_le bs
    have lK := keepT_len (ts := ts) hbl
    have lF := keepF_len (ts := ts) hbl
    have oK : ∀ {cs : List Bool}, ∀ t ∈ keepT ts cs, OfK k t ∧ nod t ≤ 8121 := fun {cs} t ht => ho t (keepT_mem ht)
    have oK1 : ∀ {cs : List Bool}, ∀ t ∈ keepT ts cs, OfK k t := fun {cs} t ht => (oK t ht).1
    have nK : nodL (keepT ts bs) ≤ 60 * 8121 := nodL_mem (fun t ht => (oK t ht).2) (by omega)
    have nF : nodL (keepT ts (bs.map not)) ≤ 60 * 8121 := nodL_mem (fun t ht => (oK t ht).2) (by omega)
    have flatW : ∀ {vs : List Th}, (∀ t ∈ vs, OfK k t) → nodL vs ≤ 1000000 → WS 6 (flatT k vs) := fun h1 h2 => WS_mono (flat_ws k _ h1 h2) (by omega)
    have oki := ok_of (bools_ws bs (by omega)) (by decide)
    refine ⟨_, rfl, _, rfl, kv, pw, k, ts, ys, rfl, gk.has, by omega, hpw, hL.has, hok, by omega, fun ff H3 s3 f3 => ?_⟩
    refine ⟨_, rfl, tb, _, rfl, .inl (SqL.of (s3 _ _ htb)), fun ph hph => ?_⟩
    have u4 := same_upd hph (.lst (bs.map V.bl))
    have S4 := s3.trans u4
    have nph : ph ≠ ta := fun e => (t2.same s3).there (e ▸ hph)
    have hh4 : upd H3 ph (.lst (bs.map V.bl)) ph = some (.lst (bs.map V.bl)) := upd_same
    have ff4 : HasF K (upd H3 ph (.lst (bs.map V.bl))) (fun b => b ≠ ta) (flatT k ts) ff := (f3.mono u4).weak fun b hb => fun (e : b = ta) => t2.there (e ▸ hb)
    have gk4 : HasF K (upd H3 ph (.lst (bs.map V.bl))) (fun b => b ≠ ta) k.th kv := HasF.mono S4 gk
    have hL4 := hL.mono S4
    have hpw4 := S4 _ _ hpw
    have htb4 := S4 _ _ htb
    have t4 := t2.same S4
    generalize upd H3 ph (.lst (bs.map V.bl)) = H4 at hh4 ff4 gk4 hL4 hpw4 htb4 t4 ⊢
    have fF := ff4.dom
    have fK := gk4.dom
    have fL := hL4.dom
    have tn4 := t4.there
    -- one, other
    refine ⟨_, rfl, _, rfl, _, rfl, kv, ff, ph, k, ts, bs, rfl, gk4.has, by omega, ff4.has, ho, by omega, hh4, hbl, fun f1 H5 s5 n5 => ?_⟩
    obtain ⟨as1, A1, D1, Z1⟩ := n5
    refine ⟨_, rfl, _, rfl, _, rfl, tb, rfl, ⟨_, SqL.of (s5 _ _ htb4)⟩, ?_⟩
    refine comp_list (K := K) (a := tb) (xs := bs.map V.bl) (fun i zs H6 => Same H5 H6 ∧ i ≤ bs.length ∧ zs = ((bs.take i).map not).map V.bl) ⟨Same.refl _, Nat.zero_le _, rfl⟩ (fun i zs H6 _ h6 => SqL.of (h6.1 _ _ (s5 _ _ htb4))) (fun i zs H6 h6 => by rw [h6.2.2, List.length_map, List.length_map, List.length_take]; omega) (by rw [List.length_map]; exact ltK (by omega)) ?_ ?_
    · rintro i x zs H6 Q6 hx ⟨s6, hi, rfl⟩ k6
      obtain ⟨b, eb, rfl⟩ := bools_get hx
      refine ⟨_, rfl, b, rfl, k6 _ _ ⟨s6, (List.getElem?_eq_some_iff.mp eb).1, ?_⟩⟩
      rw [take_map not eb, List.map_append]
      rfl
    rintro zs H6 ⟨s6, _, rfl⟩ p6 hp6
    rw [List.length_map, List.take_length]
    have u6 := same_upd hp6 (.lst ((bs.map not).map V.bl))
    have S6 := s5.trans (s6.trans u6)
    have A1y := A1.mono (s6.trans u6)
    generalize hHy : upd H6 p6 (.lst ((bs.map not).map V.bl)) = Hy at u6 S6 A1y ⊢
    refine ⟨kv, ff, p6, k, ts, bs.map not, rfl, gk4.has.mono S6, by omega, ff4.has.mono S6, ho, by omega, by rw [← hHy]; exact upd_same, by rw [List.length_map]; exact hbl, fun f2 H7 s7 n7 => ?_⟩
    obtain ⟨as2, A2, D2, Z2⟩ := n7
    have S7 := S6.trans s7
    have A17 := A1y.mono s7
    have Z2' : ∀ b ∈ as2, H4 b = none := fun b hb => none_back S6 (Z2 b hb)
    have dis : ∀ b ∈ as2, b ∉ as1 := fun b hb hb1 => by obtain ⟨z, e⟩ := A1y.lists b hb1; rw [Z2 b hb] at e; cases e
    -- mine, yours
    refine ⟨_, rfl, _, rfl, false, false, pw, tb, rfl, ⟨_, SqL.of (S7 _ _ hpw4)⟩, ⟨_, SqL.of (S7 _ _ htb4)⟩, ?_⟩
    refine comp_zipF (K := K) (xs := ys) (ys := bs.map V.bl) (fun i zs H8 => Same H7 H8 ∧ i ≤ ts.length ∧ zs = keepT (ys.take i) (bs.take i)) ⟨Same.refl _, Nat.zero_le _, by cases ys <;> cases bs <;> rfl⟩ (fun i zs H8 h8 => ⟨SqL.of ((S7.trans h8.1) _ _ hpw4), SqL.of ((S7.trans h8.1) _ _ htb4)⟩) (fun i zs H8 h8 => ?_) (by rw [List.length_map]; omega) (ltK (by omega)) ?_ ?_
    · obtain ⟨_, hi, rfl⟩ := h8
      rw [keepT_len (by rw [List.length_take, List.length_take]; omega)]
      have := cnt_le (bs.take i)
      rw [List.length_take] at this
      omega
    · rintro i x y zs H8 p Qt Qf hx hy ⟨s8, hi, rfl⟩ hp kt kf
      obtain ⟨b, eb, rfl⟩ := bools_get hy
      have hi' : i < ys.length := (List.getElem?_eq_some_iff.mp hx).1
      have e1 : ys.take (i + 1) = ys.take i ++ [x] := by rw [List.take_add_one, hx]; rfl
      have e2 : bs.take (i + 1) = bs.take i ++ [b] := by rw [List.take_add_one, eb]; rfl
      have es := keepT_snoc (ys.take i) (bs.take i) x b (by rw [List.length_take, List.length_take]; omega)
      have u := same_upd hp (.tup [x, V.bl b])
      refine ⟨_, rfl, _, rfl, ?_⟩
      cases b with
      | true =>
        rw [if_pos rfl] at es ⊢
        exact ⟨_, rfl, kt _ _ ⟨s8.trans u, by omega, by rw [e1, e2, es]⟩⟩
      | false =>
        rw [if_neg Bool.false_ne_true] at es ⊢
        exact kf _ ⟨s8.trans u, by omega, by rw [e1, e2, es, List.append_nil]⟩
    rintro zs H8 ⟨s8, _, rfl⟩ pm hpm
    have ebt : bs.take ys.length = bs := List.take_of_length_le (by omega)
    rw [List.take_length, ebt]
    have npm : pm ≠ ta := fun e => (t4.same (S7.trans s8)).there (e ▸ hpm)
    have u8 := same_upd hpm (.lst (keepT ys bs))
    have S8 := S7.trans (s8.trans u8)
    have hpm9 : upd H8 pm (.lst (keepT ys bs)) pm = some (.lst (keepT ys bs)) := upd_same
    have A19 := A17.mono (s8.trans u8)
    have A29 := A2.mono (s8.trans u8)
    generalize upd H8 pm (.lst (keepT ys bs)) = H9 at S8 hpm9 A19 A29 ⊢
    refine ⟨_, rfl, _, rfl, false, false, pw, tb, rfl, ⟨_, SqL.of (S8 _ _ hpw4)⟩, ⟨_, SqL.of (S8 _ _ htb4)⟩, ?_⟩
    refine comp_zipF (K := K) (xs := ys) (ys := bs.map V.bl) (fun i zs H10 => Same H9 H10 ∧ i ≤ ts.length ∧ zs = keepT (ys.take i) ((bs.take i).map not)) ⟨Same.refl _, Nat.zero_le _, by cases ys <;> cases bs <;> rfl⟩ (fun i zs H10 h10 => ⟨SqL.of ((S8.trans h10.1) _ _ hpw4), SqL.of ((S8.trans h10.1) _ _ htb4)⟩) (fun i zs H10 h10 => ?_) (by rw [List.length_map]; omega) (ltK (by omega)) ?_ ?_
    · obtain ⟨_, hi, rfl⟩ := h10
      rw [keepF_len (by rw [List.length_take, List.length_take]; omega)]
      have := cnt_le (bs.take i)
      rw [List.length_take] at this
      omega
    · rintro i x y zs H10 p Qt Qf hx hy ⟨s10, hi, rfl⟩ hp kt kf
      obtain ⟨b, eb, rfl⟩ := bools_get hy
      have hi' : i < ys.length := (List.getElem?_eq_some_iff.mp hx).1
      have e1 : ys.take (i + 1) = ys.take i ++ [x] := by rw [List.take_add_one, hx]; rfl
      have e2 : (bs.take (i + 1)).map not = (bs.take i).map not ++ [!b] := take_map not eb
      have es := keepT_snoc (ys.take i) ((bs.take i).map not) x (!b) (by rw [List.length_map, List.length_take, List.length_take]; omega)
      have u := same_upd hp (.tup [x, V.bl b])
      refine ⟨_, rfl, _, rfl, ?_⟩
      cases b with
      | false =>
        have es' : keepT (ys.take i ++ [x]) ((bs.take i).map not ++ [!false]) = keepT (ys.take i) ((bs.take i).map not) ++ [x] := es
        exact iteT ⟨_, rfl, kt _ _ ⟨s10.trans u, by omega, by rw [e1, e2, es']⟩⟩
      | true =>
        have es' : keepT (ys.take i ++ [x]) ((bs.take i).map not ++ [!true]) = keepT (ys.take i) ((bs.take i).map not) ++ [] := es
        exact iteF (kf _ ⟨s10.trans u, by omega, by rw [e1, e2, es', List.append_nil]⟩)
    rintro zs H10 ⟨s10, _, rfl⟩ py hpy
    rw [List.take_length, ebt]
    have npy : py ≠ ta := fun e => (t4.same (S8.trans s10)).there (e ▸ hpy)
    have u10 := same_upd hpy (.lst (keepT ys (bs.map not)))
    have S11 := S8.trans (s10.trans u10)
    have hpy11 : upd H10 py (.lst (keepT ys (bs.map not))) py = some (.lst (keepT ys (bs.map not))) := upd_same
    have hpm11 := (s10.trans u10) _ _ hpm9
    have A111 := A19.mono (s10.trans u10)
    have A211 := A29.mono (s10.trans u10)
    generalize upd H10 py (.lst (keepT ys (bs.map not))) = H11 at S11 hpy11 hpm11 A111 A211 ⊢
    have hkK : HasL K H4 (keepT ts bs) (keepT ys bs) := (keep_has bs hL4).has
    have hkF : HasL K H4 (keepT ts (bs.map not)) (keepT ys (bs.map not)) := (keep_has (bs.map not) hL4).has
    refine ⟨_, rfl, _, rfl, kv, pm, k, keepT ts bs, keepT ys bs, rfl, gk4.has.mono S11, by omega, hpm11, hkK.mono S11, oK1, by omega, fun f12 H12 s12 g12 => ?_⟩
    refine ⟨_, rfl, f12, f1, flatT k (keepT ts bs), rfl, g12.has, A111.has.mono s12, flatW oK1 (by omega), fun H13 s13 => ⟨_, rfl, iteF ?_⟩⟩
    have R13 := s12.trans s13
    refine ⟨_, rfl, _, rfl, kv, py, k, keepT ts (bs.map not), keepT ys (bs.map not), rfl, gk4.has.mono (S11.trans R13), by omega, R13 _ _ hpy11, hkF.mono (S11.trans R13), oK1, by omega, fun f14 H14 s14 g14 => ?_⟩
    refine ⟨_, rfl, f14, f2, flatT k (keepT ts (bs.map not)), rfl, g14.has, A211.has.mono (R13.trans s14), flatW oK1 (by omega), fun H15 s15 => ⟨_, rfl, iteF ?_⟩⟩
    have R15 := R13.trans (s14.trans s15)
    refine ⟨_, rfl, _, rfl, kv, pw, k, ts, ys, rfl, gk4.has.mono (S11.trans R15), by omega, (S11.trans R15) _ _ hpw4, hL4.has.mono (S11.trans R15), hok, by omega, fun f16 H16 s16 g16 => ?_⟩
    have R16 := R15.trans s16
    refine ⟨_, rfl, _, rfl, _, rfl, _, rfl, kv, f1, f2, ph, k, keepT ts bs, keepT ts (bs.map not), bs, rfl, gk4.has.mono (S11.trans R16), by omega, A111.has.mono R16, A211.has.mono R16, oK, oK, (S11.trans R16) _ _ hh4, by omega, lK.symm, lF.symm, fun fm H17 s17 n17 => ?_⟩
    rw [merge_keep ts bs hbl] at n17
    refine ⟨f16, fm, flatT k ts, rfl, g16.has.mono s17, n17.has, flatW hok (by omega), fun H18 s18 => ⟨_, rfl, iteF ?_⟩⟩
    have R18 := R16.trans (s17.trans s18)
    have S18 := S11.trans R18
    -- more
    have lyF : (keepT ys (bs.map not)).length = cnf bs := keepF_len (by omega)
    refine ⟨_, rfl, py, _, rfl, .inl (SqL.of (R18 _ _ hpy11)), _, rfl, by omega, by omega, ?_⟩
    have t18 := t4.same S18
    refine draw_worths (HasF.mono S18 gk4) hk4 t18 (by omega) (by omega) fun zs us H19 s19 t19 hM hm hp' pr hpr => ?_
    have u19 := same_upd hpr (.lst zs)
    have hml : us.length = cnf bs := by rw [hm]; omega
    have gB : HasF K (upd H19 pr (.lst zs)) (fun b => b ≠ ta ∧ H4 b ≠ none) k.th kv := (HasF.move (fun b o n z => s19 b o n.1 z) (fun _ n => n) (fK.mono S18)).mono u19
    have fB : HasF K (upd H19 pr (.lst zs)) (fun b => b ≠ ta ∧ H4 b ≠ none) (flatT k ts) ff := (HasF.move (fun b o n z => s19 b o n.1 z) (fun _ n => n) (fF.mono S18)).mono u19
    have LB : HasFL K (upd H19 pr (.lst zs)) (fun b => b ≠ ta ∧ H4 b ≠ none) ts ys := (HasFL.move (fun b o n z => s19 b o n.1 z) (fun _ n => n) (fL.mono S18)).mono u19
    have pwB := u19 _ _ (s19 _ _ npw (S18 _ _ hpw4))
    have tbB := u19 _ _ (s19 _ _ ntb (S18 _ _ htb4))
    have phB := u19 _ _ (s19 _ _ nph (S18 _ _ hh4))
    have pmB := u19 _ _ (s19 _ _ npm (R18 _ _ hpm11))
    have pyB := u19 _ _ (s19 _ _ npy (R18 _ _ hpy11))
    have A1B := (HasA.kept (sb_sbs s19) (tape_lst t18) (A111.mono R18) fun b hb z => tn4 (by rw [← List.mem_singleton.mp z]; exact Z1 b hb)).mono u19
    have A2B := (HasA.kept (sb_sbs s19) (tape_lst t18) (A211.mono R18) fun b hb z => tn4 (by rw [← List.mem_singleton.mp z]; exact Z2' b hb)).mono u19
    have MB := (hM.mono u19).has
    have prB : upd H19 pr (.lst zs) pr = some (.lst zs) := upd_same
    generalize upd H19 pr (.lst zs) = HB at gB fB LB pwB tbB phB pmB pyB A1B A2B MB prB ⊢
    have hokM : ∀ t ∈ us, OfK k t := fun t ht => (hp' t ht).1
    have nM : nodL us ≤ 60 * 8121 := nodL_mem (fun t ht => (hp' t ht).2) (by omega)
    have KB := (keep_has bs LB).has
    have FB := (keep_has (bs.map not) LB).has
    -- due, told
    refine ⟨_, rfl, _, rfl, _, rfl, tb, pm, pr, bs, keepT ts bs, us, keepT ys bs, zs, rfl, tbB, pmB, prB, KB, MB, lK.symm, hml.symm, by omega, fun pd dv H20 s20 hpd hdv => ?_⟩
    refine ⟨_, rfl, _, rfl, _, rfl, _, rfl, _, rfl, kv, pr, k, us, zs, rfl, gB.has.mono s20, by omega, s20 _ _ prB, MB.mono s20, hokM, by omega, fun fr H21 s21 g21 => ?_⟩
    have R21 := s20.trans s21
    refine ⟨kv, f1, fr, ph, k, keepT ts bs, us, bs, rfl, gB.has.mono R21, by omega, A1B.has.mono R21, g21.has, oK, hp', R21 _ _ phB, by omega, lK.symm, hml.symm, fun ft H22 s22 n22 => ?_⟩
    have R22 := R21.trans s22
    have okD : ∀ t ∈ mergeT bs (keepT ts bs) us, OfK k t := fun t ht => (merge_mem ht).elim (fun z => oK1 t z) (fun z => hokM t z)
    have nD : nodL (mergeT bs (keepT ts bs) us) ≤ 60 * 8121 := nodL_mem (fun t ht => (merge_mem ht).elim (fun z => (oK t z).2) (fun z => (hp' t z).2)) (by
      have ep := pick_merge bs [] (keepT ts bs) [] us lK.symm hml.symm
      rw [← ep, pick_len, mergeN_len]; omega)
    refine ⟨_, rfl, _, rfl, kv, pd, k, mergeT bs (keepT ts bs) us, dv, rfl, gB.has.mono R22, by omega, (s21.trans s22) _ _ hpd, hdv.mono (s21.trans s22), okD, by omega, fun f23 H23 s23 g23 => ?_⟩
    have n23 := n22.mono s23
    refine ⟨_, rfl, f23, ft, _, rfl, g23.has, n23.has, flatW okD (by omega), fun H24 s24 => ⟨_, rfl, iteF ?_⟩⟩
    have R24 := R22.trans (s23.trans s24)
    refine ⟨_, rfl, _, rfl, .lst (bs.map Th.bl), .lst (bs.map Th.bl), ⟨ph, _, rfl, R24 _ _ phB, bools_has bs⟩, ⟨tb, _, rfl, R24 _ _ tbB, bools_has bs⟩, oki, oki, _, rfl, ?_⟩
    rw [eqv_self oki]
    refine iteF ?_
    obtain ⟨as3, A3, D3, Z3⟩ := n23.mono s24
    refine ⟨_, rfl, ft, _, as3, rfl, A3, D3, flatW okD (by omega), fun H25 x25 => ?_⟩
    have R25 : Same HB H25 := R21.trans (same_of (s22.trans (s23.trans s24)) Z3 x25)
    refine ⟨_, rfl, _, rfl, kv, pm, k, keepT ts bs, keepT ys bs, rfl, gB.has.mono R25, by omega, R25 _ _ pmB, KB.mono R25, oK1, by omega, fun f26 H26 s26 g26 => ?_⟩
    refine ⟨_, rfl, f26, f1, flatT k (keepT ts bs), rfl, g26.has, A1B.has.mono (R25.trans s26), flatW oK1 (by omega), fun H27 s27 => ⟨_, rfl, iteF ?_⟩⟩
    have R27 := R25.trans (s26.trans s27)
    refine ⟨_, rfl, _, rfl, _, rfl, _, rfl, kv, f1, f2, ph, k, keepT ts bs, keepT ts (bs.map not), bs, rfl, gB.has.mono R27, by omega, A1B.has.mono R27, A2B.has.mono R27, oK, oK, R27 _ _ phB, by omega, lK.symm, lF.symm, fun fm2 H28 s28 n28 => ?_⟩
    rw [merge_keep ts bs hbl] at n28
    obtain ⟨as4, A4, D4, Z4⟩ := n28
    refine ⟨fm2, _, as4, rfl, A4, D4, flatW hok (by omega), fun H29 x29 => ?_⟩
    have R29 : Same HB H29 := R27.trans (same_of s28 Z4 x29)
    refine ⟨_, rfl, _, rfl, kv, py, k, keepT ts (bs.map not), keepT ys (bs.map not), rfl, gB.has.mono R29, by omega, R29 _ _ pyB, FB.mono R29, oK1, by omega, fun f30 H30 s30 g30 => ?_⟩
    refine ⟨_, rfl, f30, f2, flatT k (keepT ts (bs.map not)), rfl, g30.has, A2B.has.mono (R29.trans s30), flatW oK1 (by omega), fun H31 s31 => ⟨_, rfl, iteF ?_⟩⟩
    have R31 := R29.trans (s30.trans s31)
    have A1f := A1B.mono R31
    refine ⟨_, rfl, f1, _, as1, rfl, A1f, D1, flatW oK1 (by omega), fun H32 x32 => ?_⟩
    have A2f := HasA.kept x32 A1f.lists (A2B.mono R31) dis
    refine ⟨_, rfl, f2, _, as2, rfl, A2f, D2, flatW oK1 (by omega), fun H33 x33 => ?_⟩
    have mv : ∀ b o, (b ≠ ta ∧ H4 b ≠ none) → H31 b = some o → H33 b = some o := fun b o n z => x33 b o (fun y => n.2 (Z2' b y)) (x32 b o (fun y => n.2 (Z1 b y)) z)
    have gE := (HasF.move mv (fun _ n => n) (gB.mono R31)).has
    have fE := (HasF.move mv (fun _ n => n) (fB.mono R31)).has
    have LE := (HasFL.move mv (fun _ n => n) (LB.mono R31)).has
    have pwE := mv _ _ ⟨npw, by rw [hpw4]; intro z; cases z⟩ (R31 _ _ pwB)
    refine ⟨_, rfl, _, rfl, kv, pw, k, ts, ys, rfl, gE, by omega, pwE, LE, hok, by omega, fun f34 H34 s34 g34 => ?_⟩
    exact ⟨_, rfl, f34, ff, flatT k ts, rfl, g34.has, fE.mono s34, flatW hok (by omega), fun H35 _ => fin H35⟩
  case main =>
    obtain ⟨ms, ems, hms⟩ := cut_ints ns none (some 63)
    refine ⟨_, rfl, 63, rfl, a, _, rfl, hS, fun p1 h1 => ⟨p1, _, rfl, .inl (SqL.of upd_same), fun p2 h2 => ⟨by show 4 ≤ sizeLine; decide, fun ta hta => ?_⟩⟩⟩
    rw [ems] at h2 hta ⊢
    have tp : Tape (upd (upd (upd H p1 (.lst (ms.map V.int))) p2 (.lst (ms.map V.int))) ta (.lst [.ref p2, .int 0, .int 0, .int 0])) ta 0 :=
      ⟨p2, ms, 0, 0, 0, upd_same, (same_upd hta _) _ _ upd_same, by omega, Nat.le_refl _⟩
    generalize upd (upd (upd H p1 (.lst (ms.map V.int))) p2 (.lst (ms.map V.int))) ta (.lst [.ref p2, .int 0, .int 0, .int 0]) = H0 at tp ⊢
    refine ⟨_, rfl, _, rfl, ta, 5, 0, rfl, ⟨by decide, by decide⟩, tp, by decide, fun r H1 r0 r1 s1 t1 => ⟨_, _, rfl, rfl, ?_⟩⟩
    obtain ⟨l, rfl⟩ := Int.eq_ofNat_of_zero_le r0
    have el : (1 : Int) + (l : Int) = ((1 + l : Nat) : Int) := by omega
    have hkb : kb (1 + l) ≤ 31 := Nat.le_trans (kb_mono (show 1 + l ≤ 5 by omega)) (by decide)
    refine ⟨ta, 1 + l, 1, by show [V.ref ta, V.int (1 + (l : Int))] ++ [] = _; rw [el]; rfl, by omega, by omega, t1, by omega, fun k kv H2 s2 t2 g2 d2 => ?_⟩
    have hk4 : k.deep ≤ 4 := by omega
    refine ⟨_, rfl, ta, 9, _, rfl, ⟨by decide, by decide⟩, t2, by omega, fun rm H3 m0 m1 s3 t3 => ?_⟩
    refine ⟨_, rfl, ta, 6, _, rfl, ⟨by decide, by decide⟩, t3, by omega, fun rw' H4 w0 w1 s4 t4 => ?_⟩
    refine ⟨_, rfl, rm, rfl, by omega, by omega, ?_⟩
    refine draw_worths (HasN.sb (s3.trans s4) g2) hk4 t4 (by omega) (by omega) fun ys ts H5 s5 t5 hL hl ho pw hpw => ?_
    have u5 := same_upd hpw (.lst ys)
    have npw : pw ≠ ta := fun e => t5.there (e ▸ hpw)
    have hpw6 : upd H5 pw (.lst ys) pw = some (.lst ys) := upd_same
    have gk6 : HasN K (upd H5 pw (.lst ys)) ta k.th kv := HasF.mono u5 (HasN.sb (s3.trans (s4.trans s5)) g2)
    have hL6 := hL.mono u5
    have t6 := t5.same u5
    generalize upd H5 pw (.lst ys) = H6 at hpw6 gk6 hL6 t6 ⊢
    refine ⟨_, rfl, rm, rfl, by omega, by omega, ?_⟩
    refine comp_range (lo := 0) (n := rm.toNat) (fun i zs H7 => SB ta H6 H7 ∧ Tape H7 ta (1 + kb (1 + l) + 1 + 1 + rm.toNat * 8024120603 + i) ∧ ∃ bs : List Bool, zs = bs.map V.bl ∧ bs.length = i) ⟨SB.refl, t6.le (by omega), [], rfl, rfl⟩ (fun i zs H7 h7 => ?_) (ltK (by omega)) ?_ ?_
    · obtain ⟨_, _, bs, rfl, hb⟩ := h7
      rw [List.length_map, hb]
    · rintro i zs H7 Q7 hi ⟨s7, t7, bs, rfl, hb⟩ k7
      refine ⟨_, rfl, ta, 2, _, rfl, ⟨by decide, by decide⟩, t7, by omega, fun z H8 z0 z1 s8 t8 => ⟨rfl, k7 _ _ ⟨s7.trans s8, t8.le (by omega), bs ++ [decide (V.int z = V.int 1)], ?_, by rw [List.length_append, hb]; rfl⟩⟩⟩
      rw [List.map_append]
      rfl
    rintro zs H7 ⟨s7, t7, bs, rfl, hb⟩ pt hpt
    have u7 := same_upd hpt (.lst (bs.map V.bl))
    have npt : pt ≠ ta := fun e => t7.there (e ▸ hpt)
    have hpt8 : upd H7 pt (.lst (bs.map V.bl)) pt = some (.lst (bs.map V.bl)) := upd_same
    have hpw8 := u7 _ _ (s7 _ _ npw hpw6)
    have gk8 : HasN K (upd H7 pt (.lst (bs.map V.bl))) ta k.th kv := HasF.mono u7 (HasN.sb s7 gk6)
    have hL8 := (HasNL.sb s7 hL6).mono u7
    have t8 := t7.same u7
    generalize upd H7 pt (.lst (bs.map V.bl)) = H8 at hpt8 hpw8 gk8 hL8 t8 ⊢
    refine ⟨_, rfl, _, _, rfl, rfl, _, rfl, ite2 (fun c => ?_) (fun c => ?_)⟩
    · refine ⟨_, rfl, rm, rfl, by omega, by omega, ?_⟩
      refine comp_range (lo := 0) (n := rm.toNat) (fun i zs H9 => Same H8 H9 ∧ ∃ cs : List Bool, zs = cs.map V.bl ∧ cs.length = i) ⟨Same.refl _, [], rfl, rfl⟩ (fun i zs H9 h9 => ?_) (ltK (by omega)) ?_ ?_
      · obtain ⟨_, cs, rfl, hb'⟩ := h9
        rw [List.length_map, hb']
      · rintro i zs H9 Q9 hi ⟨s9, cs, rfl, hb'⟩ k9
        refine ⟨_, rfl, rfl, k9 _ _ ⟨s9, cs ++ [decide (V.int rw' = V.int 1)], ?_, by rw [List.length_append, hb']; rfl⟩⟩
        rw [List.map_append]
        rfl
      rintro zs H9 ⟨s9, cs, rfl, hb'⟩ pt' hpt'
      have u9 := same_upd hpt' (.lst (cs.map V.bl))
      have S9 := s9.trans u9
      exact ⟨ta, pw, pt', kv, k, ts, ys, cs, _, _, _, rfl, t8.same S9, by omega, HasF.mono S9 gk8, hk4, S9 _ _ hpw8, npw, hL8.mono S9, ho, by omega, upd_same, fun e => (t8.same s9).there (e ▸ hpt'), by omega, fun H' => q H'⟩
    · exact ⟨ta, pw, pt, kv, k, ts, ys, bs, _, _, _, rfl, t8, by omega, gk8, hk4, hpw8, npw, hL8, ho, by omega, hpt8, npt, by omega, fun H' => q H'⟩
end
/-! ### the top -/
theorem all_mk {l : PySem.W.OpenLaw} {w : World} {K : PySem.W.Frag} {h : Heap} {mg : Str → Option Value} {fa f1 f2 f3 f4 f5 f6 f7 f8 f9 f10 f11 f12 f13 f14 f15 : Addr} (X : K.In h) (G : h.Ns mainGlobals mg) (hfa : mg "law" = some (.ref fa))
    {od1 an1 od2 an2 od3 an3 od4 an4 od5 an5 od6 an6 od7 an7 od8 an8 od9 an9 od10 an10 od11 an11 od12 an12 od13 an13 od14 an14 od15 an15 : Option Addr} {sl1 sl2 sl3 sl4 sl5 sl6 sl7 sl8 sl9 sl10 sl11 sl12 sl13 sl14 sl15 : Array (Option Value)} {oc1 kV1 dc1 pm1 cd1 ct1 oc2 kV2 dc2 pm2 cd2 ct2 oc3 kV3 dc3 pm3 cd3 ct3 oc4 kV4 dc4 pm4 cd4 ct4 oc5 kV5 dc5 pm5 cd5 ct5 oc6 kV6 dc6 pm6 cd6 ct6 oc7 kV7 dc7 pm7 cd7 ct7 oc8 kV8 dc8 pm8 cd8 ct8 oc9 kV9 dc9 pm9 cd9 ct9 oc10 kV10 dc10 pm10 cd10 ct10 oc11 kV11 dc11 pm11 cd11 ct11 oc12 kV12 dc12 pm12 cd12 ct12 oc13 kV13 dc13 pm13 cd13 ct13 oc14 kV14 dc14 pm14 cd14 ct14 oc15 kV15 dc15 pm15 cd15 ct15 : Value} {T11 : Addr} {on11 : Obj} {nn11 : Nat}
    (a1 : PySem.W.nsIn K mainGlobals "flat_of" = some (some (.ref f1))) (l1 : K.lookup f1 = some ⟨oc1, od1, .func (PySem.W.fnOf "flat_of" "flat_of" (defArgs sFlat) (defBody sFlat) (defScope sFlat) .none kV1 dc1 pm1 an1 cd1 ct1), sl1⟩) (c1 : PySem.W.codeIn K cd1 "flat_of" = true) (k1 : PySem.W.keepIn K (.ref f1) = true)
    (a2 : PySem.W.nsIn K mainGlobals "many_in" = some (some (.ref f2))) (l2 : K.lookup f2 = some ⟨oc2, od2, .func (PySem.W.fnOf "many_in" "many_in" (defArgs sMany) (defBody sMany) (defScope sMany) .none kV2 dc2 pm2 an2 cd2 ct2), sl2⟩) (c2 : PySem.W.codeIn K cd2 "many_in" = true) (k2 : PySem.W.keepIn K (.ref f2) = true)
    (a3 : PySem.W.nsIn K mainGlobals "taken_there" = some (some (.ref f3))) (l3 : K.lookup f3 = some ⟨oc3, od3, .func (PySem.W.fnOf "taken_there" "taken_there" (defArgs sTaken) (defBody sTaken) (defScope sTaken) .none kV3 dc3 pm3 an3 cd3 ct3), sl3⟩) (c3 : PySem.W.codeIn K cd3 "taken_there" = true) (k3 : PySem.W.keepIn K (.ref f3) = true)
    (a4 : PySem.W.nsIn K mainGlobals "things_of" = some (some (.ref f4))) (l4 : K.lookup f4 = some ⟨oc4, od4, .func (PySem.W.fnOf "things_of" "things_of" (defArgs sThings) (defBody sThings) (defScope sThings) .none kV4 dc4 pm4 an4 cd4 ct4), sl4⟩) (c4 : PySem.W.codeIn K cd4 "things_of" = true) (k4 : PySem.W.keepIn K (.ref f4) = true)
    (a5 : PySem.W.nsIn K mainGlobals "behind" = some (some (.ref f5))) (l5 : K.lookup f5 = some ⟨oc5, od5, .func (PySem.W.fnOf "behind" "behind" (defArgs sBehind) (defBody sBehind) (defScope sBehind) .none kV5 dc5 pm5 an5 cd5 ct5), sl5⟩) (c5 : PySem.W.codeIn K cd5 "behind" = true) (k5 : PySem.W.keepIn K (.ref f5) = true)
    (a6 : PySem.W.nsIn K mainGlobals "kept" = some (some (.ref f6))) (l6 : K.lookup f6 = some ⟨oc6, od6, .func (PySem.W.fnOf "kept" "kept" (defArgs sKept) (defBody sKept) (defScope sKept) .none kV6 dc6 pm6 an6 cd6 ct6), sl6⟩) (c6 : PySem.W.codeIn K cd6 "kept" = true) (k6 : PySem.W.keepIn K (.ref f6) = true)
    (a7 : PySem.W.nsIn K mainGlobals "merged" = some (some (.ref f7))) (l7 : K.lookup f7 = some ⟨oc7, od7, .func (PySem.W.fnOf "merged" "merged" (defArgs sMerged) (defBody sMerged) (defScope sMerged) .none kV7 dc7 pm7 an7 cd7 ct7), sl7⟩) (c7 : PySem.W.codeIn K cd7 "merged" = true) (k7 : PySem.W.keepIn K (.ref f7) = true)
    (a8 : PySem.W.nsIn K mainGlobals "_law_draw" = some (some (.ref f8))) (l8 : K.lookup f8 = some ⟨oc8, od8, .func (PySem.W.fnOf "_law_draw" "_law_draw" (defArgs sDraw) (defBody sDraw) (defScope sDraw) .none kV8 dc8 pm8 an8 cd8 ct8), sl8⟩) (c8 : PySem.W.codeIn K cd8 "_law_draw" = true) (k8 : PySem.W.keepIn K (.ref f8) = true)
    (a9 : PySem.W.nsIn K mainGlobals "_law_number" = some (some (.ref f9))) (l9 : K.lookup f9 = some ⟨oc9, od9, .func (PySem.W.fnOf "_law_number" "_law_number" (defArgs sNum) (defBody sNum) (defScope sNum) .none kV9 dc9 pm9 an9 cd9 ct9), sl9⟩) (c9 : PySem.W.codeIn K cd9 "_law_number" = true) (k9 : PySem.W.keepIn K (.ref f9) = true)
    (a10 : PySem.W.nsIn K mainGlobals "_law_kind" = some (some (.ref f10))) (l10 : K.lookup f10 = some ⟨oc10, od10, .func (PySem.W.fnOf "_law_kind" "_law_kind" (defArgs sKind) (defBody sKind) (defScope sKind) .none kV10 dc10 pm10 an10 cd10 ct10), sl10⟩) (c10 : PySem.W.codeIn K cd10 "_law_kind" = true) (k10 : PySem.W.keepIn K (.ref f10) = true)
    (a11 : PySem.W.nsIn K mainGlobals "_law_worth" = some (some (.ref f11))) (l11 : K.lookup f11 = some ⟨oc11, od11, .func (PySem.W.fnOf "_law_worth" "_law_worth" (defArgs sWorth) (defBody sWorth) (defScope sWorth) (.ref T11) kV11 dc11 pm11 an11 cd11 ct11), sl11⟩) (c11 : PySem.W.codeIn K cd11 "_law_worth" = true) (k11 : PySem.W.keepIn K (.ref f11) = true)
    (e11 : K.lookup T11 = some on11) (g11 : on11.data = .seq #[.bool true] nn11)
    (a12 : PySem.W.nsIn K mainGlobals "_law_alike" = some (some (.ref f12))) (l12 : K.lookup f12 = some ⟨oc12, od12, .func (PySem.W.fnOf "_law_alike" "_law_alike" (defArgs sAlike) (defBody sAlike) (defScope sAlike) .none kV12 dc12 pm12 an12 cd12 ct12), sl12⟩) (c12 : PySem.W.codeIn K cd12 "_law_alike" = true) (k12 : PySem.W.keepIn K (.ref f12) = true)
    (a13 : PySem.W.nsIn K mainGlobals "_law_spoil" = some (some (.ref f13))) (l13 : K.lookup f13 = some ⟨oc13, od13, .func (PySem.W.fnOf "_law_spoil" "_law_spoil" (defArgs sSpoil) (defBody sSpoil) (defScope sSpoil) .none kV13 dc13 pm13 an13 cd13 ct13), sl13⟩) (c13 : PySem.W.codeIn K cd13 "_law_spoil" = true) (k13 : PySem.W.keepIn K (.ref f13) = true)
    (a14 : PySem.W.nsIn K mainGlobals "_law_put" = some (some (.ref f14))) (l14 : K.lookup f14 = some ⟨oc14, od14, .func (PySem.W.fnOf "_law_put" "_law_put" (defArgs sPut) (defBody sPut) (defScope sPut) .none kV14 dc14 pm14 an14 cd14 ct14), sl14⟩) (c14 : PySem.W.codeIn K cd14 "_law_put" = true) (k14 : PySem.W.keepIn K (.ref f14) = true)
    (a15 : PySem.W.nsIn K mainGlobals "law" = some (some (.ref f15))) (l15 : K.lookup f15 = some ⟨oc15, od15, .func (PySem.W.fnOf "law" "law" (defArgs sLaw) (defBody sLaw) (defScope sLaw) .none kV15 dc15 pm15 an15 cd15 ct15), sl15⟩) (c15 : PySem.W.codeIn K cd15 "law" = true) (k15 : PySem.W.keepIn K (.ref f15) = true)
    (z1 : PySem.W.nsIn K mainGlobals "isinstance" = some none) (z2 : PySem.W.nsIn K mainGlobals "int" = some none) (z3 : PySem.W.nsIn K mainGlobals "tuple" = some none) (z4 : PySem.W.nsIn K mainGlobals "list" = some none) (z5 : PySem.W.nsIn K mainGlobals "bool" = some none) (z6 : PySem.W.nsIn K mainGlobals "sum" = some none) (z7 : PySem.W.nsIn K mainGlobals "len" = some none) (z8 : PySem.W.nsIn K mainGlobals "all" = some none) (z9 : PySem.W.nsIn K mainGlobals "zip" = some none) (z10 : PySem.W.nsIn K mainGlobals "range" = some none) (z11 : PySem.W.nsIn K mainGlobals "enumerate" = some none) :
    ∃ fd : FuncData, (∀ (s : Shared) (v : Value), BindsTo s fd ⟨[v], []⟩ [("script", v)]) ∧ ∀ base : Heap, K.In base → base.Ns mainGlobals mg → FnOk l.prog w K mg base CX0 9 fa fd ["script"] (spLaw K) := by
  have e := hfa.symm.trans (PySem.W.mg_of X G a15)
  cases e
  have F1 := fun_mk (st := sFlat) l1 c1 k1
  have b1 := F1.binds (ps := ["kind", "worths"]) fun _ _ _ _ _ _ us hl => match us, hl with | [_, _], _ => rfl
  have m1 := PySem.W.mg_of X G a1
  have F2 := fun_mk (st := sMany) l2 c2 k2
  have b2 := F2.binds (ps := ["kind", "flat"]) fun _ _ _ _ _ _ us hl => match us, hl with | [_, _], _ => rfl
  have m2 := PySem.W.mg_of X G a2
  have F3 := fun_mk (st := sTaken) l3 c3 k3
  have b3 := F3.binds (ps := ["kind", "flat", "numbers"]) fun _ _ _ _ _ _ us hl => match us, hl with | [_, _, _], _ => rfl
  have m3 := PySem.W.mg_of X G a3
  have F4 := fun_mk (st := sThings) l4 c4 k4
  have b4 := F4.binds (ps := ["lengths", "numbers"]) fun _ _ _ _ _ _ us hl => match us, hl with | [_, _], _ => rfl
  have m4 := PySem.W.mg_of X G a4
  have F5 := fun_mk (st := sBehind) l5 c5 k5
  have b5 := F5.binds (ps := ["kind", "one", "other"]) fun _ _ _ _ _ _ us hl => match us, hl with | [_, _, _], _ => rfl
  have m5 := PySem.W.mg_of X G a5
  have F6 := fun_mk (st := sKept) l6 c6 k6
  have b6 := F6.binds (ps := ["kind", "flat", "truths"]) fun _ _ _ _ _ _ us hl => match us, hl with | [_, _, _], _ => rfl
  have m6 := PySem.W.mg_of X G a6
  have F7 := fun_mk (st := sMerged) l7 c7 k7
  have b7 := F7.binds (ps := ["kind", "truths", "one", "other"]) fun _ _ _ _ _ _ us hl => match us, hl with | [_, _, _, _], _ => rfl
  have m7 := PySem.W.mg_of X G a7
  have F8 := fun_mk (st := sDraw) l8 c8 k8
  have b8 := F8.binds (ps := ["tape", "many"]) fun _ _ _ _ _ _ us hl => match us, hl with | [_, _], _ => rfl
  have m8 := PySem.W.mg_of X G a8
  have F9 := fun_mk (st := sNum) l9 c9 k9
  have b9 := F9.binds (ps := ["tape"]) fun _ _ _ _ _ _ us hl => match us, hl with | [_], _ => rfl
  have m9 := PySem.W.mg_of X G a9
  have F10 := fun_mk (st := sKind) l10 c10 k10
  have b10 := F10.binds (ps := ["tape", "left"]) fun _ _ _ _ _ _ us hl => match us, hl with | [_, _], _ => rfl
  have m10 := PySem.W.mg_of X G a10
  have F11 := funD_mk (st := sWorth) l11 c11 k11
  have b11 := F11.binds (ps := ["tape", "kind", "long"]) (ds := []) e11 g11 fun _ _ _ _ _ _ us hl => match us, hl with | [_, _, _], _ => ⟨_, rfl, rfl⟩
  have d11 := F11.binds (ps := ["tape", "kind", "long"]) (ds := [.bool true]) e11 g11 fun _ _ _ _ _ _ us hl => by obtain ⟨_, _, rfl⟩ := two_of hl; exact ⟨_, rfl, rfl⟩
  have m11 := PySem.W.mg_of X G a11
  have F12 := fun_mk (st := sAlike) l12 c12 k12
  have b12 := F12.binds (ps := ["due", "found"]) fun _ _ _ _ _ _ us hl => match us, hl with | [_, _], _ => rfl
  have m12 := PySem.W.mg_of X G a12
  have F13 := fun_mk (st := sSpoil) l13 c13 k13
  have b13 := F13.binds (ps := ["thing"]) fun _ _ _ _ _ _ us hl => match us, hl with | [_], _ => rfl
  have m13 := PySem.W.mg_of X G a13
  have F14 := fun_mk (st := sPut) l14 c14 k14
  have b14 := F14.binds (ps := ["truths", "one", "other"]) fun _ _ _ _ _ _ us hl => match us, hl with | [_, _, _], _ => rfl
  have m14 := PySem.W.mg_of X G a14
  have F15 := fun_mk (st := sLaw) l15 c15 k15
  have T : Txt mg := ⟨PySem.W.mg_none_of X G z1, PySem.W.mg_none_of X G z2, PySem.W.mg_none_of X G z3, PySem.W.mg_none_of X G z4, PySem.W.mg_none_of X G z5, PySem.W.mg_none_of X G z6, PySem.W.mg_none_of X G z7, PySem.W.mg_none_of X G z8, PySem.W.mg_none_of X G z9, PySem.W.mg_none_of X G z10, PySem.W.mg_none_of X G z11⟩
  refine ⟨PySem.W.fnOf "law" "law" (defArgs sLaw) (defBody sLaw) (defScope sLaw) .none kV15 dc15 pm15 an15 cd15 ct15, fun s v => .of_eq rfl, fun base _ _ => ?_⟩
  exact ok_law F15 T (ok_draw F8 b8 T m8) b8 k8 m8 (all_kind F10 b10 m10 (ok_draw F8 b8 T m8) b8 k8 m8 5) b10 k10 m10 (all_worth F11 b11 T m11 (ok_draw F8 b8 T m8) b8 k8 m8 (ok_num F9 (ok_draw F8 b8 T m8) b8 k8 m8) b9 k9 m9 5) d11 k11 m11 (all_flat F1 b1 T m1 5) b1 k1 m1 (ok_kept F6 T (all_taken F3 b3 m3 (ok_things F4 T) b4 k4 m4 5) b3 k3 m3) b6 k6 m6 (ok_merged F7 T (all_taken F3 b3 m3 (ok_things F4 T) b4 k4 m4 5) b3 k3 m3 (all_many F2 b2 T m2 5) b2 k2 m2 (all_behind F5 b5 m5 5) b5 k5 m5) b7 k7 m7 (ok_put F14 T) b14 k14 m14 (all_alike F12 b12 T m12 6) b12 k12 m12 (all_spoil F13 b13 T m13 6) b13 k13 m13
theorem walk {l : PySem.W.OpenLaw} {q : Program} {loose : List Str} {XP : (Str → Option Value) → Heap → Prop} {YP : World → Heap → Prop} {d : DefRec} {K : Params → PySem.W.Frag} (hn : l.most = some 63) (hdf : d.params.defaults = [])
    (hY : ∀ (w : World) (h : Heap), YP w h → (K w.params).In h)
    (F : ∀ (w : World) (mg : Str → Option Value) (fa : Addr) (h : Heap), (K w.params).In h → h.Ns mainGlobals mg → mg d.name = some (.ref fa) →
      ∃ fd : FuncData, (∀ (s : Shared) (u : Value), BindsTo s fd ⟨[u], []⟩ [("script", u)]) ∧ ∀ base : Heap, (K w.params).In base → base.Ns mainGlobals mg → FnOk l.prog w (K w.params) mg base CX0 9 fa fd ["script"] (spLaw (K w.params))) :
    PySem.W.WalkO q loose XP YP l.row.toRowW d [] (fun f vs => PySem.call f vs) :=
  L2.walk_of (n := 63) (k := 9) (x := "script") (CX := fun _ => CX0) (sp := fun w => spLaw (K w.params)) hn (by decide) hdf ⟨rfl, by decide, by decide⟩ hY F (fun _ _ a ns hl _ hS => ⟨a, ns, rfl, hS, hl, fun _ => rfl⟩) fun _ _ _ _ _ z => z
end K36
-- LAST THEOREM
open PySem PySem.W PyProof.Rows
set_option maxRecDepth 100000 in
set_option maxHeartbeats 0 in
theorem PySem.Challenge.cw_broadrow_k36_kept_and_merged_holds : PySem.Challenge.rw_broadrow_k36_kept_and_merged.Holds := by
  w_on; o_law; k_head; (case hw => w_witness2)
  k_fill
  refine K36.walk (l := PySem.Challenge.rw_broadrow_k36_kept_and_merged) rfl rfl (fun w h Y => PySem.W.kIn_of Y) ?F
  case F =>
    intro w mg fa h KX G hmg
    refine' K36.all_mk KX G hmg ?a1 ?l1 ?c1 ?k1 ?a2 ?l2 ?c2 ?k2 ?a3 ?l3 ?c3 ?k3 ?a4 ?l4 ?c4 ?k4 ?a5 ?l5 ?c5 ?k5 ?a6 ?l6 ?c6 ?k6 ?a7 ?l7 ?c7 ?k7 ?a8 ?l8 ?c8 ?k8 ?a9 ?l9 ?c9 ?k9 ?a10 ?l10 ?c10 ?k10 ?a11 ?l11 ?c11 ?k11 ?e11 ?g11 ?a12 ?l12 ?c12 ?k12 ?a13 ?l13 ?c13 ?k13 ?a14 ?l14 ?c14 ?k14 ?a15 ?l15 ?c15 ?k15 ?z1 ?z2 ?z3 ?z4 ?z5 ?z6 ?z7 ?z8 ?z9 ?z10 ?z11
    (case a1 => k_is); (case l1 => k_is); (case c1 => k_is); (case k1 => k_is)
    (case a2 => k_is); (case l2 => k_is); (case c2 => k_is); (case k2 => k_is)
    (case a3 => k_is); (case l3 => k_is); (case c3 => k_is); (case k3 => k_is)
    (case a4 => k_is); (case l4 => k_is); (case c4 => k_is); (case k4 => k_is)
    (case a5 => k_is); (case l5 => k_is); (case c5 => k_is); (case k5 => k_is)
    (case a6 => k_is); (case l6 => k_is); (case c6 => k_is); (case k6 => k_is)
    (case a7 => k_is); (case l7 => k_is); (case c7 => k_is); (case k7 => k_is)
    (case a8 => k_is); (case l8 => k_is); (case c8 => k_is); (case k8 => k_is)
    (case a9 => k_is); (case l9 => k_is); (case c9 => k_is); (case k9 => k_is)
    (case a10 => k_is); (case l10 => k_is); (case c10 => k_is); (case k10 => k_is)
    (case a11 => k_is); (case l11 => k_is); (case c11 => k_is); (case k11 => k_is); (case e11 => k_is); (case g11 => rfl)
    (case a12 => k_is); (case l12 => k_is); (case c12 => k_is); (case k12 => k_is)
    (case a13 => k_is); (case l13 => k_is); (case c13 => k_is); (case k13 => k_is)
    (case a14 => k_is); (case l14 => k_is); (case c14 => k_is); (case k14 => k_is)
    (case a15 => k_is); (case l15 => k_is); (case c15 => k_is); (case k15 => k_is)
    (case z1 => k_is); (case z2 => k_is); (case z3 => k_is); (case z4 => k_is); (case z5 => k_is); (case z6 => k_is); (case z7 => k_is); (case z8 => k_is); (case z9 => k_is); (case z10 => k_is); (case z11 => k_is)
