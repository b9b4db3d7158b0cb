import PyProof.Rows.All
import Wide.All
import OpenK.AllK
import Wide.FinOn
import Lean
import PyProof.EqAt
import PyProof.EqKinds
import PyProof.TupleCall
import PySem.Challenge.RW_speakmill_k52_whole_heights
set_option Elab.async false
set_option linter.all false
set_option maxRecDepth 100000
/-! THE HAND LAYER, for ints, bools, texts, own classes, LISTS and tuples (index, slices, in, append, pop ..), calls, loops. Paste it whole ahead of your own text; what your proof does not reach may be deleted. -/
namespace L2
open PySem PySem.Spec PyProof.Rows

/-- a key: an int or a str -/
abbrev Key := Sum Int Str
def keyIs : Key → Value → Bool
  | .inl k, v => Value.isInt k v
  | .inr x, v => Value.isStrOf x v
def keyH (w : World) : Key → Int
  | .inl k => hashInt k
  | .inr x => hashStr w x
theorem keyIs_shape : ∀ {k : Key} {v : Value}, keyIs k v = true → (∃ i t, k = Sum.inl i ∧ v = Value.int i t) ∨ (∃ x t, k = Sum.inr x ∧ v = Value.str x t)
  | .inl i, v, h => by
    obtain ⟨t, e⟩ := Value.isInt_shape (k := i) (v := v) h
    exact .inl ⟨i, t, rfl, e⟩
  | .inr x, v, h => by
    obtain ⟨t, e⟩ := Value.isStrOf_shape (x := x) (v := v) h
    exact .inr ⟨x, t, rfl, e⟩
theorem keyIs_int (i : Int) (t : Tok) : keyIs (.inl i) (.int i t) = true := by simp [keyIs, Value.isInt]
theorem keyIs_str (x : Str) (t : Tok) : keyIs (.inr x) (.str x t) = true := by simp [keyIs, Value.isStrOf]
theorem key_ll (a b : Int) : decide ((Sum.inl a : Key) = Sum.inl b) = (a == b) := by
  by_cases e : a = b
  · subst e; simp
  · have h : ¬ (Sum.inl a : Key) = Sum.inl b := fun q => e (Sum.inl.inj q)
    rw [decide_eq_false h]
    exact (beq_eq_false_iff_ne.mpr e).symm
theorem key_rr (a b : Str) : decide ((Sum.inr a : Key) = Sum.inr b) = decide (a = b) := by
  by_cases e : a = b
  · subst e; simp
  · have h : ¬ (Sum.inr a : Key) = Sum.inr b := fun q => e (Sum.inr.inj q)
    rw [decide_eq_false h, decide_eq_false e]
theorem key_lr (a : Int) (b : Str) : decide ((Sum.inl a : Key) = Sum.inr b) = false := decide_eq_false (fun q => nomatch q)
theorem key_rl (a : Str) (b : Int) : decide ((Sum.inr a : Key) = Sum.inl b) = false := decide_eq_false (fun q => nomatch q)

def mixKind (prog : Program) (w : World) : PySem.KeyKind prog w Key where
  is := keyIs
  hash := keyH w
  inj := fun v a b ha hb => by
    rcases keyIs_shape ha with ⟨i, t, rfl, rfl⟩ | ⟨x, t, rfl, rfl⟩
    · rcases keyIs_shape hb with ⟨j, u, rfl, e⟩ | ⟨y, u, rfl, e⟩
      · injection e with e1 _; rw [e1]
      · exact nomatch e
    · rcases keyIs_shape hb with ⟨j, u, rfl, e⟩ | ⟨y, u, rfl, e⟩
      · exact nomatch e
      · injection e with e1 _; rw [e1]
  byValue := fun k v h => by
    rcases keyIs_shape h with ⟨i, t, rfl, rfl⟩ | ⟨x, t, rfl, rfl⟩ <;> rfl
  pyHash := fun hv h => by
    rcases keyIs_shape hv with ⟨i, t, rfl, rfl⟩ | ⟨x, t, rfl, rfl⟩
    · exact wpAny_pyHash_int h
    · exact wpAny_pyHash_str h
  eqBool := fun hu hv h => by
    rcases keyIs_shape hu with ⟨i, t, rfl, rfl⟩ | ⟨x, t, rfl, rfl⟩
    · rcases keyIs_shape hv with ⟨j, u, rfl, rfl⟩ | ⟨y, u, rfl, rfl⟩
      · rw [key_ll] at h; exact wpAny_eqBool_int h
      · rw [key_lr] at h; exact SeqAt.EqAt.int_str i t y u _ _ _ _ h
    · rcases keyIs_shape hv with ⟨j, u, rfl, rfl⟩ | ⟨y, u, rfl, rfl⟩
      · rw [key_rl] at h; exact SeqAt.EqAt.str_int x t j u _ _ _ _ h
      · rw [key_rr] at h; exact wpAny_eqBool_str h
  «strs» := fun k x t v h => by
    rcases keyIs_shape h with ⟨i, u, rfl, e⟩ | ⟨y, u, rfl, e⟩
    · exact nomatch e
    · injection e with e1 _
      subst e1
      cases v <;> rfl

theorem mixKind_is (prog : Program) (w : World) (k : Key) (v : Value) : (mixKind prog w).is k v = keyIs k v := rfl
theorem mixKind_int (prog : Program) (w : World) (i : Int) (t : Tok) : (mixKind prog w).is (.inl i) (.int i t) = true := keyIs_int i t
theorem mixKind_str (prog : Program) (w : World) (x : Str) (t : Tok) : (mixKind prog w).is (.inr x) (.str x t) = true := keyIs_str x t
end L2

namespace L2
open PySem PySem.Spec PyProof.Rows

/-- a value, without the heap -/
inductive V where
  | non | bl (b : Bool) | int (i : Int) | str (x : Str) | byt (b : Array UInt8) | flt (b : UInt64) | ref (a : Addr) | ty (n : String)
  deriving DecidableEq

def RelV : V → Value → Prop
  | .non, u => u = Value.none
  | .bl b, u => u = Value.bool b
  | .int i, u => ∃ t, u = Value.int i t
  | .str x, u => ∃ t, u = Value.str x t
  | .byt b, u => ∃ t, u = Value.bytes b t
  | .flt b, u => ∃ t, u = Value.float b t
  | .ref a, u => u = Value.ref a
  | .ty n, u => u = Value.type n

abbrev Vals : List V → List Value → Prop := Paired RelV
theorem Vals.length {xs : List V} {us : List Value} (r : Vals xs us) : xs.length = us.length := Paired.length r
theorem Vals.get : ∀ {xs : List V} {us : List Value} {i : Nat} {x : V}, Vals xs us → xs[i]? = some x → ∃ u, us[i]? = some u ∧ RelV x u
  | _, _, _, _, .nil, e => by simp at e
  | _, _, 0, _, .cons r _, e => by simp at e; subst e; exact ⟨_, rfl, r⟩
  | _, _, i + 1, x, .cons _ t, e => by
    obtain ⟨u, h1, h2⟩ := Vals.get (i := i) (x := x) t (by simpa using e)
    exact ⟨u, by simpa using h1, h2⟩
theorem Vals.set {x : V} {u : Value} (r : RelV x u) : ∀ {xs : List V} {us : List Value} (i : Nat), Vals xs us → Vals (xs.set i x) (us.set i u)
  | _, _, _, .nil => .nil
  | _, _, 0, .cons _ t => .cons r t
  | _, _, i + 1, .cons q t => .cons q (Vals.set r i t)
theorem Vals.append : ∀ {xs ys : List V} {us ws : List Value}, Vals xs us → Vals ys ws → Vals (xs ++ ys) (us ++ ws)
  | _, _, _, _, .nil, s => s
  | _, _, _, _, .cons r t, s => .cons r (Vals.append t s)
theorem Vals.take : ∀ {xs : List V} {us : List Value} (n : Nat), Vals xs us → Vals (xs.take n) (us.take n)
  | _, _, 0, _ => .nil
  | _, _, _ + 1, .nil => .nil
  | _, _, n + 1, .cons r t => .cons r (Vals.take n t)
theorem Vals.drop : ∀ {xs : List V} {us : List Value} (n : Nat), Vals xs us → Vals (xs.drop n) (us.drop n)
  | _, _, 0, r => r
  | _, _, _ + 1, .nil => .nil
  | _, _, n + 1, .cons _ t => Vals.drop n t
theorem Vals.none_of : ∀ {xs : List V} {us : List Value} {i : Nat}, Vals xs us → xs[i]? = none → us[i]? = none := fun {xs us i} r e => by
  have h1 := r.length
  have h2 : xs.length ≤ i := List.getElem?_eq_none_iff.mp e
  exact List.getElem?_eq_none_iff.mpr (by omega)

def RelO : Option V → Option Value → Prop
  | some v, some u => RelV v u
  | none, none => True
  | _, _ => False
def KV {κ : Type} : List (κ × V) → List (κ × Value) → Prop := Paired fun (p : κ × V) (q : κ × Value) => p.1 = q.1 ∧ RelV p.2 q.2

/-- a key of a dict (00_mix): an int or a text -/
def kV : Key → V
  | .inl i => .int i
  | .inr x => .str x

/-- what stands at a tracked address -/
inductive HO where
  /-- a list -/
  | lst (xs : List V)
  /-- a tuple (never changes) -/
  | tup (xs : List V)
  /-- a dict whose keys are ints and texts; one whose keys are tuples of ints and texts (the empty one is both) -/
  | dK (kvs : List (Key × V)) | dT (kvs : List (List Key × V))
  /-- a set of ints: its members, its size -/
  | set (S : Int → Bool) (n : Nat)
  /-- an instance of the class at C, its dict at dx, its attributes -/
  | ins (C dx : Addr) (fs : List (Str × V))
  /-- the dict of the instance at x -/
  | own (x : Addr)
  /-- the dict of an exception -/
  | xd (fs : List (Str × V))
  /-- a bound method, f of x -/
  | met (f x : Addr)
  /-- a range object lo, lo + 1, .. below hi -/
  | rng (lo hi : Int)
  /-- a thing that is known to the object (the script; a dict while a loop walks it): read, never written while it is so -/
  | frz (o : Obj) (u : HO)
  /-- a code object's table -/
  | tbl (ps : Array Value)
  /-- any other thing, by what is true of its one object (a def of one's own: SetO a S n := HO.ext fun h => ..) -/
  | ext (φ : Heap → Prop)

abbrev Hp := Addr → Option HO
def upd (H : Hp) (a : Addr) (o : HO) : Hp := fun b => if b = a then some o else H b
theorem upd_same {H : Hp} {a : Addr} {o : HO} : upd H a o a = some o := by unfold upd; rw [if_pos rfl]
theorem upd_ne {H : Hp} {a b : Addr} {o : HO} (h : b ≠ a) : upd H a o b = H b := by unfold upd; rw [if_neg h]
theorem upd_upd {H : Hp} {a : Addr} {o u : HO} : upd (upd H a o) a u = upd H a u := by
  funext b; unfold upd; split <;> rfl
/-- two objects of different content stand apart -/
theorem ne_of {H : Hp} {a b : Addr} {o u : HO} (h : H a = some o) (h' : H b = some u) (d : o ≠ u) : a ≠ b := by
  intro e; subst e; rw [h] at h'; exact d (Option.some.inj h')
theorem ne_of_none {H : Hp} {a b : Addr} {o : HO} (h : H a = some o) (h' : H b = none) : a ≠ b := by
  intro e; subst e; rw [h] at h'; cases h'

section
variable (P : Program) (w : World)
def ObjOk (H : Hp) (h : Heap) (a : Addr) : HO → Prop
  | .lst xs => xs.length ≤ sizeLine ∧ ∃ (its : List Value) (n : Nat), Vals xs its ∧ h.get? a = some { cls := .type "list", data := .seq its.toArray n }
  | .tup xs => xs.length ≤ sizeLine ∧ ∃ its : List Value, Vals xs its ∧ IsTup h a its.toArray
  | .dK kvs => kvs.length ≤ sizeLine ∧ (a == sysModules) = false ∧ ∃ vs, KV kvs vs ∧ h.DictOf (mixKind P w) a vs
  | .dT kvs => kvs.length ≤ sizeLine ∧ (a == sysModules) = false ∧ ∃ xs : List (List Key × Addr × Value),
      Paired (fun (p : List Key × V) (q : List Key × Addr × Value) => p.1 = q.1 ∧ H q.2.1 = some (.tup (p.1.map kV)) ∧ RelV p.2 q.2.2) kvs xs ∧
      ∃ o es ep, h.get? a = some o ∧ o.ExactDict ∧ o.data = .dict es ep ∧ es.toList = xs.map (entryOfKey (tupleKind (mixKind P w))) ∧ (xs.map (·.1)).Nodup
  | .set S n => h.SetOf (intKind P w) a S n
  | .ins C dx fs => H dx = some (.own a) ∧ fs.length ≤ 1000 ∧ dx ≠ a ∧ h.get? a = some (PySem.W.instObj C dx) ∧
      ∃ mA, h.Ns1 dx mA ∧ (∀ f, RelO (fs.lookup f) (mA f)) ∧ PySem.Within mA (fs.map (·.1))
  | .own _ => ∃ o, h.get? a = some o
  | .xd fs => ∃ mA, h.Ns1 a mA ∧ ∀ f, RelO (fs.lookup f) (mA f)
  | .rng lo hi => ∃ t u v, h.get? a = some { cls := .type "range", data := .fields #[.int lo t, .int hi u, .int 1 v] }
  | .frz o u => h.get? a = some o ∧ ObjOk H h a u
  | .tbl ps => h.get? a = some { cls := .none, data := .fields ps }
  | .met f x => h.get? a = some (PySem.W.methodObj (.ref f) (.ref x))
  | .ext φ => φ h ∧ (∃ o, h.get? a = some o) ∧ ∀ h1 h2 : Heap, φ h1 → (∀ o, h1.get? a = some o → h2.get? a = some o) → φ h2
/-- the abstract heap is held -/
def HOk (H : Hp) (h : Heap) : Prop := ∀ a o, H a = some o → ObjOk P w H h a o
end

section
variable {P : Program} {w : World} {H H' : Hp} {h h' : Heap} {a : Addr} {o : HO}
theorem ObjOk.lt (x : ObjOk P w H h a o) : a < h.objs.size := by
  cases o with
  | lst xs => obtain ⟨_, _, _, _, e⟩ := x; exact Heap.lt_size e
  | tup xs => obtain ⟨_, _, _, p⟩ := x; exact p.lt
  | dK kvs => obtain ⟨_, _, _, _, o, _, _, e, _⟩ := x; exact Heap.lt_size e
  | dT kvs => obtain ⟨_, _, _, _, o, _, _, e, _⟩ := x; exact Heap.lt_size e
  | set S n => obtain ⟨o, _, _, _, e, _⟩ := x; exact Heap.lt_size e
  | ins C dx fs => obtain ⟨_, _, _, e, _⟩ := x; exact Heap.lt_size e
  | own y => obtain ⟨_, e⟩ := x; exact Heap.lt_size e
  | xd fs => obtain ⟨_, ⟨_, _, _, e, _⟩, _⟩ := x; exact Heap.lt_size e
  | rng lo hi => obtain ⟨_, _, _, e⟩ := x; exact Heap.lt_size e
  | frz ob u => obtain ⟨e, _⟩ := x; exact Heap.lt_size e
  | tbl ps => exact Heap.lt_size (show h.get? a = some _ from x)
  | met f y => exact Heap.lt_size (show h.get? a = some _ from x)
  | ext φ => obtain ⟨_, ⟨_, e⟩, _⟩ := x; exact Heap.lt_size e
theorem Paired.mapP {α β : Type} {F G : α → β → Prop} : ∀ {l₁ : List α} {l₂ : List β}, Paired F l₁ l₂ → (∀ a b, F a b → G a b) → Paired G l₁ l₂
  | _, _, .nil, _ => .nil
  | _, _, .cons r t, f => .cons (f _ _ r) (Paired.mapP t f)
theorem Paired.imp' {α β : Type} {F G : α → β → Prop} (f : ∀ a b, F a b → G a b) {l₁ : List α} {l₂ : List β} (r : Paired F l₁ l₂) : Paired G l₁ l₂ := Paired.mapP r f
/-- what an object's description leans on: its own object, its own dict, the tuples -/
theorem ObjOk.stay (x : ObjOk P w H h a o) (k : ∀ b u, (b = a ∨ H b = some (.own a)) → h.get? b = some u → h'.get? b = some u)
    (ho : ∀ b, H b = some (.own a) → H' b = some (.own a)) (ht : ∀ b xs, H b = some (.tup xs) → H' b = some (.tup xs)) : ObjOk P w H' h' a o := by
  induction o with
  | lst xs => obtain ⟨z, its, n, r, e⟩ := x; exact ⟨z, its, n, r, k _ _ (.inl rfl) e⟩
  | tup xs => obtain ⟨z, its, r, ob, e, c⟩ := x; exact ⟨z, its, r, ob, k _ _ (.inl rfl) e, c⟩
  | dK kvs => obtain ⟨z, y, vs, r, ob, es, ep, e, c⟩ := x; exact ⟨z, y, vs, r, ob, es, ep, k _ _ (.inl rfl) e, c⟩
  | dT kvs =>
    obtain ⟨z, y, xs, r, ob, es, ep, e, c⟩ := x
    exact ⟨z, y, xs, Paired.mapP r fun p q z => ⟨z.1, ht _ _ z.2.1, z.2.2⟩, ob, es, ep, k _ _ (.inl rfl) e, c⟩
  | set S n => obtain ⟨ob, es, ep, t, e, c⟩ := x; exact ⟨ob, es, ep, t, k _ _ (.inl rfl) e, c⟩
  | ins C dx fs =>
    obtain ⟨d, z, ne, e, mA, ⟨od, es, ep, e2, c⟩, r⟩ := x
    exact ⟨ho _ d, z, ne, k _ _ (.inl rfl) e, mA, ⟨od, es, ep, k _ _ (.inr d) e2, c⟩, r⟩
  | own y => obtain ⟨ob, e⟩ := x; exact ⟨ob, k _ _ (.inl rfl) e⟩
  | xd fs => obtain ⟨mA, ⟨od, es, ep, e, c⟩, r⟩ := x; exact ⟨mA, ⟨od, es, ep, k _ _ (.inl rfl) e, c⟩, r⟩
  | rng lo hi => obtain ⟨t, u, v, e⟩ := x; exact ⟨t, u, v, k _ _ (.inl rfl) e⟩
  | frz ob u ih => obtain ⟨e, q⟩ := x; exact ⟨k _ _ (.inl rfl) e, ih q⟩
  | tbl ps =>
    have e : h.get? a = some { cls := .none, data := .fields ps } := x
    show h'.get? a = some { cls := .none, data := .fields ps }
    exact k a _ (.inl rfl) e
  | met f y =>
    have e : h.get? a = some (PySem.W.methodObj (.ref f) (.ref y)) := x
    show h'.get? a = some (PySem.W.methodObj (.ref f) (.ref y))
    exact k a _ (.inl rfl) e
  | ext φ => obtain ⟨p, ⟨o, e⟩, st⟩ := x; exact ⟨st _ _ p fun o q => k _ _ (.inl rfl) q, ⟨o, k _ _ (.inl rfl) e⟩, st⟩
theorem HOk.lt (x : HOk P w H h) (e : H a = some o) : a < h.objs.size := (x a o e).lt
theorem HOk.fresh (x : HOk P w H h) (e : h.objs.size ≤ a) : H a = none := by
  cases q : H a with
  | none => rfl
  | some u => exact absurd (Nat.lt_of_lt_of_le (x.lt q) e) (Nat.lt_irrefl _)
/-- every object of the heap is kept -/
theorem HOk.kept (x : HOk P w H h) (k : ∀ b u, h.get? b = some u → h'.get? b = some u) : HOk P w H h' := fun a o e =>
  (x a o e).stay (fun b u _ q => k b u q) (fun _ q => q) fun _ _ q => q
/-- a new object is laid and tracked -/
theorem HOk.laid (x : HOk P w H h) (k : ∀ b u, h.get? b = some u → h'.get? b = some u) (hp : h.objs.size ≤ a) (new : ObjOk P w (upd H a o) h' a o) : HOk P w (upd H a o) h' := fun b u e => by
  have hn := x.fresh hp
  by_cases hb : b = a
  · subst hb; rw [upd_same] at e; cases e; exact new
  · rw [upd_ne hb] at e
    exact (x b u e).stay (fun c v _ q => k c v q) (fun c q => by rw [upd_ne (ne_of_none q hn)]; exact q) fun c xs q => by rw [upd_ne (ne_of_none q hn)]; exact q
end

/-- what may be read as u: it is u, or a known u -/
def Rd (H : Hp) (a : Addr) (u : HO) : Prop := H a = some u ∨ ∃ o, H a = some (.frz o u)
theorem Rd.of {H : Hp} {a : Addr} {u : HO} (h : H a = some u) : Rd H a u := .inl h
theorem Rd.ok {P : Program} {w : World} {H : Hp} {h : Heap} {a : Addr} {u : HO} (r : Rd H a u) (x : HOk P w H h) : ObjOk P w H h a u := by
  rcases r with r | ⟨o, r⟩
  · exact x a u r
  · obtain ⟨_, q⟩ := x a _ r
    exact q
/-- what may be written -/
def Mut : Option HO → Prop
  | some (.lst _) => True
  | some (.dK _) => True
  | some (.dT _) => True
  | some (.set _ _) => True
  | some (.ins _ _ _) => True
  | some (.ext _) => True
  | _ => False
section
variable {P : Program} {w : World} {H : Hp} {h h' : Heap} {x e : Addr} {o' : HO}
/-- the object at e is changed: x itself, or the dict of the instance x -/
theorem HOk.write (ok : HOk P w H h) (mu : Mut (H x)) (he : e = x ∨ H e = some (.own x)) (k : ∀ b u, b ≠ e → h.get? b = some u → h'.get? b = some u) (heo : ∃ u, h'.get? e = some u)
    (new : ObjOk P w (upd H x o') h' x o') : HOk P w (upd H x o') h' := fun b u q => by
  have nown : ∀ c y, H c = some (.own y) → c ≠ x := fun c y r z => by subst z; rw [r] at mu; exact mu
  have ntup : ∀ c xs, H c = some (.tup xs) → c ≠ x := fun c xs r z => by subst z; rw [r] at mu; exact mu
  by_cases hb : b = x
  · subst hb; rw [upd_same] at q; cases q; exact new
  · rw [upd_ne hb] at q
    by_cases hbe : b = e
    · have q' : H b = some (.own x) := by
        rcases he with z | z
        · exact absurd (hbe.trans z) hb
        · rw [hbe]; exact z
      rw [q] at q'; cases q'
      obtain ⟨v, hv⟩ := heo
      exact ⟨v, by rw [hbe]; exact hv⟩
    · refine (ok b u q).stay (fun c v hc r => k c v ?_ r) (fun c r => by rw [upd_ne (nown c b r)]; exact r) fun c xs r => by rw [upd_ne (ntup c xs r)]; exact r
      rcases hc with rfl | hc
      · exact hbe
      · rintro rfl
        rcases he with z | z
        · exact nown c b hc z
        · rw [hc] at z; cases z; exact hb rfl
end

/-! ### kept unless tracked; of the frames at fs (the callers') the slots may change (an exception that passes writes there); of the records at ex (iterators) nothing is said -/
structure Un (fs ex : List Addr) (H H' : Hp) (h h' : Heap) : Prop where
  keep : ∀ b o, h.get? b = some o → H b = none → b ∉ fs → b ∉ ex → h'.get? b = some o
  slot : ∀ b o, h.get? b = some o → H b = none → b ∈ fs → b ∉ ex → ∃ sl, h'.get? b = some { o with slots := sl }
  free : ∀ b o, h.get? b = some o → H b = none → b ∉ ex → H' b = none
  there : ∀ b o, h.get? b = some o → b ∉ ex → ∃ o', h'.get? b = some o'
  tups : ∀ b xs, H b = some (.tup xs) → H' b = some (.tup xs)
  frzs : ∀ b o u, H b = some (.frz o u) → H' b = some (.frz o u)
  tbls : ∀ b ps, H b = some (.tbl ps) → ∃ more, H' b = some (.tbl (ps ++ more))
section
variable {fs fs' ex ex' : List Addr} {H H1 H2 : Hp} {h h1 h2 h' : Heap} {a x e : Addr} {o : HO}
theorem Un.any (u : Un fs ex H H1 h h1) {b : Addr} {ob : Obj} (q : h.get? b = some ob) (n : H b = none) (hx : b ∉ ex) : ∃ sl, h1.get? b = some { ob with slots := sl } := by
  by_cases hb : b ∈ fs
  · exact u.slot b ob q n hb hx
  · exact ⟨ob.slots, u.keep b ob q n hb hx⟩
theorem Un.trans (a : Un fs ex H H1 h h1) (b : Un fs ex H1 H2 h1 h2) : Un fs ex H H2 h h2 where
  keep := fun c ob q n hc hx => b.keep c ob (a.keep c ob q n hc hx) (a.free c ob q n hx) hc hx
  slot := fun c ob q n hc hx => by
    obtain ⟨sl, e1⟩ := a.slot c ob q n hc hx
    obtain ⟨sl', e2⟩ := b.slot c _ e1 (a.free c ob q n hx) hc hx
    exact ⟨sl', e2⟩
  free := fun c ob q n hx => by
    obtain ⟨o', e1⟩ := a.there c ob q hx
    exact b.free c o' e1 (a.free c ob q n hx) hx
  there := fun c ob q hx => by
    obtain ⟨o', e1⟩ := a.there c ob q hx
    exact b.there c o' e1 hx
  tups := fun c xs q => b.tups c xs (a.tups c xs q)
  frzs := fun c ob xs q => b.frzs c ob xs (a.frzs c ob xs q)
  tbls := fun c ps q => by
    obtain ⟨m1, e1⟩ := a.tbls c ps q
    obtain ⟨m2, e2⟩ := b.tbls c _ e1
    exact ⟨m1 ++ m2, by rw [e2, Array.append_assoc]⟩
theorem Un.kept (k : ∀ b u, h.get? b = some u → h'.get? b = some u) : Un fs ex H H h h' :=
  ⟨fun b ob q _ _ _ => k b ob q, fun b ob q _ _ _ => ⟨ob.slots, k b ob q⟩, fun _ _ _ n _ => n, fun b ob q _ => ⟨ob, k b ob q⟩, fun _ _ q => q, fun _ _ _ q => q, fun _ ps q => ⟨#[], by rw [q]; simp⟩⟩
theorem Un.refl : Un fs ex H H h h := Un.kept fun _ _ q => q
theorem Un.laid (k : ∀ b u, h.get? b = some u → h'.get? b = some u) (hp : h.objs.size ≤ a) (hn : H a = none) : Un fs ex H (upd H a o) h h' where
  keep := fun b u q _ _ _ => k b u q
  slot := fun b u q _ _ _ => ⟨u.slots, k b u q⟩
  free := fun b u q n _ => by rw [upd_ne (Nat.ne_of_lt (Nat.lt_of_lt_of_le (Heap.lt_size q) hp))]; exact n
  there := fun b u q _ => ⟨u, k b u q⟩
  tups := fun b xs q => by rw [upd_ne (ne_of_none q hn)]; exact q
  frzs := fun b u xs q => by rw [upd_ne (ne_of_none q hn)]; exact q
  tbls := fun b ps q => ⟨#[], by rw [upd_ne (ne_of_none q hn), q]; simp⟩
theorem Un.write (mu : Mut (H x)) (he : e = x ∨ H e = some (.own x)) (k : ∀ b u, b ≠ e → h.get? b = some u → h'.get? b = some u) (heo : ∃ u, h'.get? e = some u) : Un fs ex H (upd H x o) h h' := by
  have hx : ∀ b, H b = none → b ≠ x := fun b n z => by subst z; rw [n] at mu; exact mu
  have hb : ∀ b, H b = none → b ≠ e := fun b n z => by
    subst z
    rcases he with r | r
    · exact hx b n r
    · rw [n] at r; cases r
  have hm : ∀ b u, H b = some u → ¬ Mut (some u) → b ≠ x := fun b u q nm z => by subst z; rw [q] at mu; exact nm mu
  refine ⟨fun b u q n _ _ => k b u (hb b n) q, fun b u q n _ _ => ⟨u.slots, k b u (hb b n) q⟩, fun b u q n _ => by rw [upd_ne (hx b n)]; exact n, fun b u q _ => ?_,
    fun b xs q => by rw [upd_ne (hm b _ q fun z => z)]; exact q, fun b u xs q => by rw [upd_ne (hm b _ q fun z => z)]; exact q, fun b ps q => ⟨#[], by rw [upd_ne (hm b _ q fun z => z), q]; simp⟩⟩
  by_cases hbe : b = e
  · subst hbe; exact heo
  · exact ⟨u, k b u hbe q⟩
theorem Un.mono (u : Un fs ex H H1 h h1) (hs : ∀ b ∈ fs, b ∈ fs') (hx : ∀ b ∈ ex, b ∈ ex') : Un fs' ex' H H1 h h1 :=
  ⟨fun b ob q n hb he => u.keep b ob q n (fun z => hb (hs b z)) fun z => he (hx b z), fun _ _ q n _ he => u.any q n fun z => he (hx _ z), fun b ob q n he => u.free b ob q n fun z => he (hx b z), fun b ob q he => u.there b ob q fun z => he (hx b z), u.tups, u.frzs, u.tbls⟩
end

/-! ### the heap without what is tracked -/
def trk (h : Heap) (H : Hp) : List Addr := (List.range h.objs.size).filter fun a => (H a).isSome
def hidT (h : Heap) (H : Hp) : Heap := PySem.W.hideAll h (trk h H)
theorem hidT_size (h : Heap) (H : Hp) : (hidT h H).objs.size = h.objs.size := PySem.W.hideAll_size _ _
theorem hidT_get {h : Heap} {H : Hp} {b : Addr} {o : Obj} (e : h.get? b = some o) (n : H b = none) : (hidT h H).get? b = some o :=
  PySem.W.hideAll_get _ e fun hm => by
    have q : (H b).isSome = true := (List.mem_filter.mp hm).2
    rw [n] at q; simp at q
theorem of_hidT {h : Heap} {H : Hp} {b : Addr} {o : Obj} (e : (hidT h H).get? b = some o) : h.get? b = some o ∧ H b = none := by
  have e' : h.get? b = some o := PySem.W.of_hideAll (trk h H) e
  refine ⟨e', ?_⟩
  cases q : H b with
  | none => rfl
  | some x =>
    have hm : b ∈ trk h H := List.mem_filter.mpr ⟨List.mem_range.mpr (Heap.lt_size e'), by simp [q]⟩
    have z : (hidT h H).get? b = none := PySem.W.hideAll_none (trk h H) hm
    rw [z] at e; cases e

/-! ### OpenK's ledger, filled with every new object but one -/
def allNews (g h : Heap) (L : Addr) : List (Addr × Obj) := (List.range h.objs.size).filterMap fun a => if a = L ∨ (g.get? a).isSome = true then none else (h.get? a).map fun o => (a, o)
theorem mem_allNews {g h : Heap} {L a : Addr} {o : Obj} (h1 : a ≠ L) (h2 : g.get? a = none) (h3 : h.get? a = some o) : (a, o) ∈ allNews g h L :=
  List.mem_filterMap.mpr ⟨a, List.mem_range.mpr (Heap.lt_size h3), by simp [h1, h2, h3]⟩
theorem of_mem_allNews {g h : Heap} {L : Addr} {p : Addr × Obj} (hp : p ∈ allNews g h L) : p.1 ≠ L ∧ g.get? p.1 = none ∧ h.get? p.1 = some p.2 := by
  obtain ⟨b, _, e⟩ := List.mem_filterMap.mp hp
  split at e
  · cases e
  · rename_i hn
    cases q : h.get? b with
    | none => rw [q] at e; simp at e
    | some u =>
      rw [q] at e
      simp only [Option.map_some, Option.some.injEq] at e
      subst e
      refine ⟨fun z => hn (.inl z), ?_, q⟩
      show g.get? b = none
      cases r : g.get? b with
      | none => rfl
      | some v => exact (hn (.inr (by simp [r]))).elim
def rest (g h : Heap) (L d : Addr) : List (Addr × Obj) := (allNews g h L).filter fun p => decide (p.1 ≠ d)
theorem rest_ne {g h : Heap} {L d : Addr} : ∀ p ∈ rest g h L d, p.1 ≠ d := fun p hp => of_decide_eq_true (List.mem_filter.mp hp).2
theorem mem_rest {g h : Heap} {L d a : Addr} {o : Obj} (h1 : a ≠ L) (h2 : g.get? a = none) (h3 : h.get? a = some o) (h4 : a ≠ d) : (a, o) ∈ rest g h L d :=
  List.mem_filter.mpr ⟨mem_allNews h1 h2 h3, decide_eq_true h4⟩
theorem news_all {g h : Heap} {L : Addr} : News g L h (allNews g h L) := fun p hp => let ⟨a, b, c⟩ := of_mem_allNews hp; ⟨c, a, b⟩
theorem news_at {g h : Heap} {L d : Addr} {o : Obj} (h1 : d ≠ L) (h2 : g.get? d = none) (h3 : h.get? d = some o) : News g L h ((d, o) :: rest g h L d) := fun p hp => by
  rcases List.mem_cons.mp hp with rfl | hp
  · exact ⟨h3, h1, h2⟩
  · exact news_all p (List.mem_filter.mp hp).1
/-- behind a rule that changed d alone: all else but the frame is kept -/
theorem kept_of_news {g h h' : Heap} {L d : Addr} {m : Str → Option Value} (k : ∀ b o, g.get? b = some o → h.get? b = some o) (F : Fr g L h' m) (N : News g L h' (rest g h L d)) :
    ∀ b o, b ≠ L → b ≠ d → h.get? b = some o → h'.get? b = some o := fun b o h1 h2 e => by
  cases q : g.get? b with
  | some u =>
    have := k b u q
    rw [e] at this; cases this
    exact F.keep b _ q
  | none => exact (N (b, o) (mem_rest h1 q e h2)).1
end L2

namespace L2
open PySem PySem.Spec PyProof.Rows

/-- the module's facts, over the base: the heap at the law's entry without what is tracked there -/
structure Mod (K : PySem.W.Frag) (mg : Str → Option Value) (base : Heap) : Prop where
  kin : K.In base
  glob : base.Ns mainGlobals mg
  blt : ∃ mb, base.Ns builtinsNs mb ∧ ∀ x : Str, x ≠ "__name__" → mb x = bootBuiltins x
  nolimit : base.NoLimit

/-- the context: a def's body (or a comprehension's block) running. base: fixed through the whole law; s₀, H₀: the entry; outer: the frames whose slots others may change (a def's callers); stack: all frames that run;
   ex: iterators that were made ahead of the entry and are walked here (a comprehension's); fn: the names whose cells were made at the entry (a def: all; a comprehension's block: its own); calm: not within an except suite; pn: pins that every state bears; xe: what is wanted of an exception that leaves the code -/
structure Cx where
  prog : Program
  w : World
  K : PySem.W.Frag
  mg : Str → Option Value
  base : Heap
  A : Around
  N : List Str
  s₀ : Shared
  H₀ : Hp
  env : Env
  outer : List Env
  stack : List Env
  ex : List Addr
  fn : Str → Bool
  calm : Bool
  pn : List (Addr × Obj)
  xe : Value → Shared → Prop
/-- the callers' frames -/
def frs (l : List Env) : List Addr := l.filterMap (·.frame)
abbrev Cx.fs (X : Cx) : List Addr := frs X.outer

def Vis (sc : Scope) (x : Str) : Prop := sc.names.lookup x = some .local ∨ sc.names.lookup x = some .cell ∨ sc.names.lookup x = some .free
def Loc (sc : Scope) (x : Str) : Prop := sc.names.lookup x = some .local ∨ sc.names.lookup x = some .cell
def Look (env : Env) (h : Heap) (m : Str → Option Value) (x : Str) (u : Value) : Prop :=
  (env.kindOf x = some .local ∧ m x = some u) ∨ ((env.kindOf x = some .cell ∨ env.kindOf x = some .free) ∧ ∃ c, env.cells.lookup x = some c ∧ h.IsCell c (some u))

structure Cx.Ok (X : Cx) : Prop where
  mod : Mod X.K X.mg X.base
  kind : X.env.scope.kind = .function
  glob : X.env.globals = mainGlobals
  blt : X.env.builtins = builtinsNs
  above : X.s₀.heap.objs.size ≤ X.env.locals
  inj : ∀ x y c, X.env.cells.lookup x = some c → X.env.cells.lookup y = some c → x = y
  has : ∀ x, (X.env.kindOf x = some .cell ∨ X.env.kindOf x = some .free) → ∃ c, X.env.cells.lookup x = some c
  cab : ∀ x c, X.fn x = true → X.env.cells.lookup x = some c → X.s₀.heap.objs.size ≤ c
  hd : X.calm = true → X.A.handled = none
  frames : X.A.frames = some X.stack
  stk : X.stack = X.outer ∨ (X.stack = X.env :: X.outer ∧ X.env.frame = some X.env.locals)
  exf : ∀ b ∈ X.ex, b ≠ X.env.locals ∧ ∀ x c, X.env.cells.lookup x = some c → c ≠ b
  bs : ∀ b o, X.base.get? b = some o → X.s₀.heap.get? b = some o ∧ X.H₀ b = none
  bsz : X.base.objs.size ≤ X.s₀.heap.objs.size
  noex : ∀ b o, X.base.get? b = some o → b ∉ X.ex
  exfs : ∀ b ∈ X.ex, b ∉ X.fs
  funs : X.s₀.heap.FunFrames X.base X.outer
  frf : ∀ b ∈ X.fs, X.H₀ b = none

structure Inv (X : Cx) (pins : List (Addr × Obj)) (σ : List (Option V)) (H : Hp) (s : Shared) : Prop where
  ok : X.Ok
  os : s.os = X.s₀.os
  bare : AllBare s.gens
  base : Un X.fs X.ex X.H₀ H X.s₀.heap s.heap
  loc : ∃ m, s.heap.Ns X.env.locals m ∧ ∀ (i : Nat) (x : Str) (v : V), X.N[i]? = some x → σ[i]? = some (some v) → Vis X.env.scope x → ∃ u, RelV v u ∧ Look X.env s.heap m x u
  cell : ∀ x c, X.env.cells.lookup x = some c → ∃ v, s.heap.IsCell c v
  free : H X.env.locals = none
  freeC : ∀ x c, X.env.cells.lookup x = some c → H c = none
  pin : ∀ p ∈ X.pn ++ pins, s.heap.get? p.1 = some p.2 ∧ H p.1 = none ∧ p.1 ≠ X.env.locals ∧ p.1 ∉ X.fs ∧ ∀ v, p.2.data ≠ .cell v
  hok : HOk X.prog X.w H s.heap
  len : σ.length = X.N.length

section
variable {X : Cx} {pins : List (Addr × Obj)} {σ : List (Option V)} {H H' : Hp} {s : Shared} {h' : Heap}

theorem Cx.Ok.nofr (ok : X.Ok) {b : Addr} {o : Obj} (e : X.base.get? b = some o) : b ∉ X.fs := fun hb => by
  have := (ok.funs.mem hb).1
  rw [e] at this; cases this
theorem Inv.bs (I : Inv X pins σ H s) : ∀ b o, X.base.get? b = some o → s.heap.get? b = some o ∧ H b = none := fun b o e =>
  ⟨I.base.keep b o (I.ok.bs b o e).1 (I.ok.bs b o e).2 (I.ok.nofr e) (I.ok.noex b o e), I.base.free b o (I.ok.bs b o e).1 (I.ok.bs b o e).2 (I.ok.noex b o e)⟩
theorem Inv.bk (I : Inv X pins σ H s) : ∀ b o, X.base.get? b = some o → s.heap.get? b = some o := fun b o e => (I.bs b o e).1
theorem Inv.mod (I : Inv X pins σ H s) : Mod X.K X.mg X.base := I.ok.mod
theorem Inv.kIn (I : Inv X pins σ H s) : X.K.In s.heap := I.ok.mod.kin.keeps I.bk
theorem Inv.nolimit (I : Inv X pins σ H s) : s.heap.NoLimit := I.ok.mod.nolimit.keeps I.bk
/-- the frame over the base: for OpenK's rules (K.In X.base is I.mod.kin) -/
theorem Inv.fr (I : Inv X pins σ H s) : ∃ m, Fr X.base X.env.locals s.heap m :=
  let ⟨m, hn, _⟩ := I.loc
  ⟨m, hn, I.bk, Nat.le_trans I.ok.bsz I.ok.above⟩
theorem Inv.lt (I : Inv X pins σ H s) : X.env.locals < s.heap.objs.size := let ⟨_, hn, _⟩ := I.loc; hn.lt
theorem Inv.sz (I : Inv X pins σ H s) : X.s₀.heap.objs.size ≤ s.heap.objs.size := Nat.le_trans I.ok.above (Nat.le_of_lt I.lt)
theorem Inv.nofs (I : Inv X pins σ H s) {a : Addr} (h : s.heap.objs.size ≤ a) : a ∉ X.fs := fun hb => by
  obtain ⟨_, o, ho, _⟩ := I.ok.funs.mem hb
  exact absurd (Nat.lt_of_lt_of_le (Heap.lt_size ho) (Nat.le_trans I.sz h)) (Nat.lt_irrefl _)
theorem Inv.cne (I : Inv X pins σ H s) : ∀ x c, X.env.cells.lookup x = some c → c ≠ X.env.locals := fun x c e z => by
  obtain ⟨v, o, ho, hd⟩ := I.cell x c e
  obtain ⟨m, ⟨o', es, ep, ho', hd', _⟩, _⟩ := I.loc
  rw [z, ho'] at ho; cases ho; rw [hd'] at hd; cases hd
theorem Inv.funs (I : Inv X pins σ H s) : s.heap.FunFrames X.base X.outer := by
  have all : ∀ (l : List Env), (∀ b ∈ frs l, b ∈ X.fs) → X.s₀.heap.FunFrames X.base l → s.heap.FunFrames X.base l := by
    intro l
    induction l with
    | nil => intro _ _; trivial
    | cons env r ih =>
      intro hs hl
      obtain ⟨hk, ⟨L, o, hf, hn, ho, hd⟩, hr⟩ := hl
      have hL : L ∈ X.fs := hs L (by unfold frs; rw [List.filterMap_cons, hf]; exact List.mem_cons_self)
      obtain ⟨sl, e⟩ := I.base.slot L o ho (I.ok.frf L hL) hL fun z => I.ok.exfs L z hL
      exact ⟨hk, ⟨L, _, hf, hn, e, hd⟩, ih (fun b hb => hs b (by unfold frs; rw [List.filterMap_cons, hf]; exact List.mem_cons_of_mem _ hb)) hr⟩
  exact all X.outer (fun _ hb => hb) I.ok.funs

/-- the frames that run, for a call -/
theorem Inv.stack (I : Inv X pins σ H s) : s.heap.FunFrames X.base X.stack := by
  rcases I.ok.stk with e | ⟨e, hf⟩
  · rw [e]; exact I.funs
  · rw [e]
    obtain ⟨m, hn, _⟩ := I.loc
    refine .cons (by rw [I.ok.kind]; decide) hf hn ?_ I.funs
    exact Heap.get?_none_of_le (Nat.le_trans I.ok.bsz I.ok.above)
theorem Inv.stkSub (I : Inv X pins σ H s) : ∀ b ∈ frs X.stack, b ∈ X.env.locals :: X.fs := fun b hb => by
  rcases I.ok.stk with e | ⟨e, hf⟩
  · rw [e] at hb; exact List.mem_cons_of_mem _ hb
  · rw [e] at hb
    unfold frs at hb
    rw [List.filterMap_cons, hf] at hb
    exact hb
theorem Inv.stkFree (I : Inv X pins σ H s) : ∀ b ∈ frs X.stack, H b = none := fun b hb => by
  rcases List.mem_cons.mp (I.stkSub b hb) with e | hb
  · rw [e]; exact I.free
  · obtain ⟨_, o, ho, _⟩ := I.ok.funs.mem hb
    exact I.base.free b o ho (I.ok.frf b hb) fun z => I.ok.exfs b z hb

/-- THE STEP: the untracked objects but the frame and the records at ch are kept (the callers' frames up to slots), the frame's map is kept, the new abstract heap is held -/
theorem Inv.step {g' : Array GenState} {t' : Nat} {d' : Drawn} {ch : List Addr} (I : Inv X pins σ H s)
    (hch : ∀ b ∈ ch, (b ∈ X.ex ∨ X.s₀.heap.objs.size ≤ b) ∧ b ≠ X.env.locals ∧ (∀ x c, X.env.cells.lookup x = some c → c ≠ b) ∧ ∀ p ∈ X.pn ++ pins, p.1 ≠ b)
    (keep : ∀ b o, b ≠ X.env.locals → b ∉ X.fs → b ∉ ch → s.heap.get? b = some o → H b = none → h'.get? b = some o)
    (slot : ∀ b o, b ≠ X.env.locals → b ∈ X.fs → b ∉ ch → s.heap.get? b = some o → H b = none → ∃ sl, h'.get? b = some { o with slots := sl }) (free : ∀ b o, b ∉ ch → s.heap.get? b = some o → H b = none → H' b = none)
    (there : ∀ b o, b ∉ ch → s.heap.get? b = some o → ∃ o', h'.get? b = some o')
    (tups : ∀ b xs, H b = some (.tup xs) → H' b = some (.tup xs)) (frzs : ∀ b o u, H b = some (.frz o u) → H' b = some (.frz o u)) (tbls : ∀ b ps, H b = some (.tbl ps) → ∃ more, H' b = some (.tbl (ps ++ more)))
    (ns : ∀ m, s.heap.Ns X.env.locals m → h'.Ns X.env.locals m) (hok : HOk X.prog X.w H' h') (hg : AllBare g') :
    Inv X pins σ H' { s with heap := h', gens := g', drawn := d', toks := t' } := by
  have neL : ∀ b o, X.s₀.heap.get? b = some o → b ≠ X.env.locals := fun b o e => Nat.ne_of_lt (Nat.lt_of_lt_of_le (Heap.lt_size e) I.ok.above)
  have neC : ∀ b o, X.s₀.heap.get? b = some o → b ∉ X.ex → b ∉ ch := fun b o e hx hb => by
    rcases (hch b hb).1 with z | z
    · exact hx z
    · exact absurd (Nat.lt_of_lt_of_le (Heap.lt_size e) z) (Nat.lt_irrefl _)
  have cellK : ∀ x c, X.env.cells.lookup x = some c → ∀ v, s.heap.IsCell c v → h'.IsCell c v := fun x c e v ⟨o, ho, hd⟩ => by
    have nch : c ∉ ch := fun z => (hch c z).2.2.1 x c e rfl
    by_cases hc : c ∈ X.fs
    · obtain ⟨sl, q⟩ := slot c o (I.cne x c e) hc nch ho (I.freeC x c e)
      exact ⟨_, q, hd⟩
    · exact ⟨o, keep c o (I.cne x c e) hc nch ho (I.freeC x c e), hd⟩
  refine ⟨I.ok, I.os, hg, ⟨fun b o e n hb hx => ?_, fun b o e n hb hx => ?_, fun b o e n hx => ?_, fun b o e hx => ?_, fun b xs e => tups b xs (I.base.tups b xs e), fun b o xs e => frzs b o xs (I.base.frzs b o xs e), fun b ps e => ?_⟩, ?_, fun x c e => ?_, ?_, fun x c e => ?_, fun p hp => ?_, hok, I.len⟩
  · exact keep b o (neL b o e) hb (neC b o e hx) (I.base.keep b o e n hb hx) (I.base.free b o e n hx)
  · obtain ⟨sl, e1⟩ := I.base.slot b o e n hb hx
    obtain ⟨sl', e2⟩ := slot b _ (neL b o e) hb (neC b o e hx) e1 (I.base.free b o e n hx)
    exact ⟨sl', e2⟩
  · obtain ⟨o', e1⟩ := I.base.there b o e hx
    exact free b o' (neC b o e hx) e1 (I.base.free b o e n hx)
  · obtain ⟨o', e1⟩ := I.base.there b o e hx
    exact there b o' (neC b o e hx) e1
  · obtain ⟨m1, e1⟩ := I.base.tbls b ps e
    obtain ⟨m2, e2⟩ := tbls b _ e1
    exact ⟨m1 ++ m2, by rw [e2, Array.append_assoc]⟩
  · obtain ⟨m, hn, hl⟩ := I.loc
    refine ⟨m, ns m hn, fun i x v e1 e2 e3 => ?_⟩
    obtain ⟨u, r, l⟩ := hl i x v e1 e2 e3
    refine ⟨u, r, ?_⟩
    rcases l with l | ⟨k, c, e, z⟩
    · exact .inl l
    · exact .inr ⟨k, c, e, cellK x c e _ z⟩
  · obtain ⟨v, z⟩ := I.cell x c e
    exact ⟨v, cellK x c e v z⟩
  · obtain ⟨m, ⟨o, _, _, ho, _⟩, _⟩ := I.loc
    exact free _ o (fun z => (hch _ z).2.1 rfl) ho I.free
  · obtain ⟨v, o, ho, hd⟩ := I.cell x c e
    exact free c o (fun z => (hch c z).2.2.1 x c e rfl) ho (I.freeC x c e)
  · obtain ⟨e, n, ne, nf, d⟩ := I.pin p hp
    have nch : p.1 ∉ ch := fun z => (hch p.1 z).2.2.2 p hp rfl
    exact ⟨keep p.1 p.2 ne nf nch e n, free p.1 p.2 nch e n, ne, nf, d⟩
/-- .. where the frame's own object is kept too -/
theorem Inv.un {t' : Nat} (I : Inv X pins σ H s) (u : Un X.fs [] H H' s.heap h') (hok : HOk X.prog X.w H' h') : Inv X pins σ H' { s with heap := h', toks := t' } := by
  obtain ⟨m, ⟨o, es, ep, ho, r⟩, _⟩ := id I.loc
  obtain ⟨sl, hL⟩ := u.any ho I.free (by simp)
  exact I.step (g' := s.gens) (d' := s.drawn) (ch := []) (fun _ z => nomatch z) (fun b o _ hb _ e n => u.keep b o e n hb (by simp)) (fun b o _ hb _ e n => u.slot b o e n hb (by simp)) (fun b o _ e n => u.free b o e n (by simp)) (fun b o _ e => u.there b o e (by simp)) u.tups u.frzs u.tbls (fun m' hm => by
    obtain ⟨o', es', ep', ho', r'⟩ := hm
    rw [ho] at ho'; cases ho'
    exact ⟨_, es', ep', hL, r'⟩) hok I.bare
/-- behind a call (or a comprehension's block): the slots of this frame may have changed too, the records at ch may have turned -/
theorem Inv.call {g' : Array GenState} {t' : Nat} {d' : Drawn} {ch : List Addr} (I : Inv X pins σ H s) (u : Un (frs X.stack) ch H H' s.heap h') (hok : HOk X.prog X.w H' h') (hg : AllBare g')
    (hch : ∀ b ∈ ch, (b ∈ X.ex ∨ X.s₀.heap.objs.size ≤ b) ∧ b ≠ X.env.locals ∧ (∀ x c, X.env.cells.lookup x = some c → c ≠ b) ∧ ∀ p ∈ X.pn ++ pins, p.1 ≠ b) :
    Inv X pins σ H' { s with heap := h', gens := g', drawn := d', toks := t' } := by
  obtain ⟨m, ⟨o, es, ep, ho, r⟩, _⟩ := id I.loc
  obtain ⟨sl, hL⟩ := u.any ho I.free fun z => (hch _ z).2.1 rfl
  exact I.step (ch := ch) hch (fun b o hL hb hc e n => u.keep b o e n (fun z => (List.mem_cons.mp (I.stkSub b z)).elim hL hb) hc) (fun b o _ _ hc e n => u.any e n hc) (fun b o hc e n => u.free b o e n hc) (fun b o hc e => u.there b o e hc) u.tups u.frzs u.tbls (fun m' hm => by
    obtain ⟨o', es', ep', ho', r'⟩ := hm
    rw [ho] at ho'; cases ho'
    exact ⟨_, es', ep', hL, r'⟩) hok hg
/-- an untracked record of ours (an iterator) has turned -/
theorem Inv.turned {t' : Nat} {it : Addr} (I : Inv X pins σ H s) (k : ∀ b o, b ≠ it → s.heap.get? b = some o → h'.get? b = some o) (hn : H it = none) (hL : it ≠ X.env.locals)
    (h1 : it ∈ X.ex ∨ X.s₀.heap.objs.size ≤ it) (h2 : ∀ x c, X.env.cells.lookup x = some c → c ≠ it) (h3 : ∀ p ∈ X.pn ++ pins, p.1 ≠ it) : Inv X pins σ H { s with heap := h', toks := t' } := by
  have nit : ∀ b u, H b = some u → b ≠ it := fun b u e z => by rw [z, hn] at e; cases e
  refine I.step (g' := s.gens) (d' := s.drawn) (ch := [it]) (fun b hb => ?_) (fun b o _ _ hc e _ => k b o (fun z => hc (by simp [z])) e) (fun b o _ _ hc e _ => ⟨o.slots, k b o (fun z => hc (by simp [z])) e⟩) (fun _ _ _ _ n => n)
    (fun b o hc e => ⟨o, k b o (fun z => hc (by simp [z])) e⟩) (fun _ _ e => e) (fun _ _ _ e => e) (fun b ps e => ⟨#[], by rw [e]; simp⟩) (fun m hm => ?_) (fun b u e => ?_) I.bare
  · have e : b = it := by simpa using hb
    subst e
    exact ⟨h1, hL, h2, h3⟩
  · obtain ⟨o, es, ep, ho, r⟩ := hm
    exact ⟨o, es, ep, k _ o (Ne.symm hL) ho, r⟩
  · refine (I.hok b u e).stay (fun c v hc q => k c v ?_ q) (fun _ q => q) fun _ _ q => q
    rcases hc with z | z
    · rw [z]; exact nit b u e
    · exact nit c _ z
theorem Inv.tok (I : Inv X pins σ H s) (t : Nat) : Inv X pins σ H { s with toks := t } := I.un (h' := s.heap) (t' := t) Un.refl I.hok
/-- all objects kept -/
theorem Inv.kept {t' : Nat} (I : Inv X pins σ H s) (k : ∀ b u, s.heap.get? b = some u → h'.get? b = some u) : Inv X pins σ H { s with heap := h', toks := t' } := I.un (Un.kept k) (I.hok.kept k)
/-- a new object laid and tracked -/
theorem Inv.laid {a : Addr} {o : HO} {t' : Nat} (I : Inv X pins σ H s) (k : ∀ b u, s.heap.get? b = some u → h'.get? b = some u) (hp : s.heap.objs.size ≤ a) (new : ObjOk X.prog X.w (upd H a o) h' a o) :
    Inv X pins σ (upd H a o) { s with heap := h', toks := t' } := I.un (Un.laid k hp (I.hok.fresh hp)) (I.hok.laid k hp new)
/-- an object written -/
theorem Inv.write {x e : Addr} {o : HO} {t' : Nat} (I : Inv X pins σ H s) (mu : Mut (H x)) (he : e = x ∨ H e = some (.own x)) (k : ∀ b u, b ≠ e → s.heap.get? b = some u → h'.get? b = some u) (heo : ∃ u, h'.get? e = some u)
    (new : ObjOk X.prog X.w (upd H x o) h' x o) : Inv X pins σ (upd H x o) { s with heap := h', toks := t' } := I.un (Un.write mu he k heo) (I.hok.write mu he k heo new)
/-- forgetting slots, pins -/
theorem Inv.weak {σ' : List (Option V)} (I : Inv X pins σ H s) (hl : σ'.length = σ.length) (w : ∀ (i : Nat) v, σ'[i]? = some (some v) → σ[i]? = some (some v)) : Inv X pins σ' H s :=
  ⟨I.ok, I.os, I.bare, I.base, let ⟨m, hn, hl'⟩ := I.loc; ⟨m, hn, fun i x v e1 e2 e3 => hl' i x v e1 (w i v e2) e3⟩, I.cell, I.free, I.freeC, I.pin, I.hok, hl.trans I.len⟩
theorem Inv.pins_of {pins' : List (Addr × Obj)} (I : Inv X pins σ H s) (h : ∀ p ∈ pins', s.heap.get? p.1 = some p.2 ∧ H p.1 = none ∧ p.1 ≠ X.env.locals ∧ p.1 ∉ X.fs ∧ ∀ v, p.2.data ≠ .cell v) : Inv X pins' σ H s :=
  ⟨I.ok, I.os, I.bare, I.base, I.loc, I.cell, I.free, I.freeC, fun p hp => (List.mem_append.mp hp).elim (fun z => I.pin p (List.mem_append_left _ z)) (h p), I.hok, I.len⟩

theorem nodup_ix {N : List Str} (hN : N.Nodup) {i j : Nat} {x : Str} (a : N[i]? = some x) (b : N[j]? = some x) : i = j := by
  obtain ⟨h1, e1⟩ := List.getElem?_eq_some_iff.mp a
  obtain ⟨h2, e2⟩ := List.getElem?_eq_some_iff.mp b
  exact (List.getElem_inj hN).mp (e1.trans e2.symm)

/-- a name is stored; what changed -/
theorem store_ok2 {M : Model} {A : Around} {E : Value → Shared → Prop} {i : Nat} {x : Str} {v : V} {u : Value} {Q : Unit → Shared → Prop} (I : Inv X pins σ H s) (hN : X.N.Nodup) (hi : X.N[i]? = some x) (hx : Loc X.env.scope x) (r : RelV v u)
    (h : ∀ s', Inv X pins (σ.set i (some v)) H s' → (∃ a, Heap.SameBut a s.heap s'.heap ∧ (a = X.env.locals ∨ X.env.cells.lookup x = some a)) → Q () s') (hf : X.fn x = true ∨ X.env.scope.names.lookup x = some .local := by first | exact .inl rfl | exact .inr rfl | assumption) : wpAny M A (storeName X.env x u) Q E s := by
  obtain ⟨m, hn, hl⟩ := id I.loc
  have hcls : (X.env.scope.kind == .class || (X.env.scope.kind == .module && X.env.locals != X.env.globals)) = false := by rw [I.ok.kind]; rfl
  have hiσ : i < σ.length := by rw [I.len]; exact (List.getElem?_eq_some_iff.mp hi).1
  have cne := I.cne
  have tracked : ∀ {a : Addr} {h' : Heap}, (∃ o, s.heap.get? a = some o ∧ H a = none) → Heap.SameBut a s.heap h' → HOk X.prog X.w H h' := fun {a h'} ha hs b ob e => by
    obtain ⟨_, _, hfree⟩ := ha
    refine (I.hok b ob e).stay (fun c w' hc q => (hs.2 c ?_).trans q) (fun _ q => q) fun _ _ q => q
    rintro rfl
    rcases hc with rfl | hc
    · rw [hfree] at e; cases e
    · rw [hfree] at hc; cases hc
  rcases hx with hk | hk
  · refine wpAny_storeName_local hk hn (fun h' hn' hs => ?_) hcls
    obtain ⟨oL, _, _, hoL, _⟩ := id hn
    refine h _ ⟨I.ok, I.os, I.bare, ⟨fun b o e n hb hx => ?_, fun b o e n hb hx => ?_, I.base.free, fun b o e hx => ?_, I.base.tups, I.base.frzs, I.base.tbls⟩, ⟨_, hn', fun j y v' e1 e2 e3 => ?_⟩, fun y c e => ?_, I.free, I.freeC, fun p hp => ?_, tracked ⟨oL, hoL, I.free⟩ hs, by simpa using I.len⟩ ⟨_, hs, .inl rfl⟩
    · exact (hs.2 b (Nat.ne_of_lt (Nat.lt_of_lt_of_le (Heap.lt_size e) I.ok.above))).trans (I.base.keep b o e n hb hx)
    · obtain ⟨sl, e1⟩ := I.base.slot b o e n hb hx
      exact ⟨sl, (hs.2 b (Nat.ne_of_lt (Nat.lt_of_lt_of_le (Heap.lt_size e) I.ok.above))).trans e1⟩
    · obtain ⟨o', e1⟩ := I.base.there b o e hx
      exact ⟨o', (hs.2 b (Nat.ne_of_lt (Nat.lt_of_lt_of_le (Heap.lt_size e) I.ok.above))).trans e1⟩
    · by_cases hj : j = i
      · subst hj
        rw [hi] at e1; cases e1
        rw [List.getElem?_set_self hiσ] at e2
        cases e2
        exact ⟨u, r, .inl ⟨hk, by simp⟩⟩
      · rw [List.getElem?_set_ne (Ne.symm hj)] at e2
        obtain ⟨u', r', q⟩ := hl j y v' e1 e2 e3
        refine ⟨u', r', ?_⟩
        rcases q with ⟨k, e⟩ | ⟨k, c, e, z⟩
        · refine .inl ⟨k, ?_⟩
          have : y ≠ x := fun e => hj (nodup_ix hN e1 (e ▸ hi))
          simp [this, e]
        · exact .inr ⟨k, c, e, z.sameBut hs (cne y c e)⟩
    · obtain ⟨w', z⟩ := I.cell y c e
      exact ⟨w', z.sameBut hs (cne y c e)⟩
    · obtain ⟨e, n, ne, nf, d⟩ := I.pin p hp
      exact ⟨(hs.2 p.1 ne).trans e, n, ne, nf, d⟩
  · have hfn : X.fn x = true := by
      rcases hf with z | z
      · exact z
      · rw [z] at hk; cases hk
    obtain ⟨c, hc⟩ := I.ok.has x (.inl hk)
    obtain ⟨w', z⟩ := I.cell x c hc
    refine wpAny_storeName_cell I.ok.kind hk hc z (fun h' hc' hs => ?_)
    obtain ⟨oc, hoc, hocd⟩ := id z
    refine h { s with heap := h' } ⟨I.ok, I.os, I.bare, ⟨fun b o e n hb hx => ?_, fun b o e n hb hx => ?_, I.base.free, fun b o e hx => ?_, I.base.tups, I.base.frzs, I.base.tbls⟩, ⟨m, hn.sameBut hs (Ne.symm (cne x c hc)), fun j y v' e1 e2 e3 => ?_⟩, fun y c' e => ?_, I.free, I.freeC, fun p hp => ?_, tracked ⟨oc, hoc, I.freeC x c hc⟩ hs, by simpa using I.len⟩ ⟨c, hs, .inr hc⟩
    · exact (hs.2 b (Nat.ne_of_lt (Nat.lt_of_lt_of_le (Heap.lt_size e) (I.ok.cab x c hfn hc)))).trans (I.base.keep b o e n hb hx)
    · obtain ⟨sl, e1⟩ := I.base.slot b o e n hb hx
      exact ⟨sl, (hs.2 b (Nat.ne_of_lt (Nat.lt_of_lt_of_le (Heap.lt_size e) (I.ok.cab x c hfn hc)))).trans e1⟩
    · obtain ⟨o', e1⟩ := I.base.there b o e hx
      exact ⟨o', (hs.2 b (Nat.ne_of_lt (Nat.lt_of_lt_of_le (Heap.lt_size e) (I.ok.cab x c hfn hc)))).trans e1⟩
    · by_cases hj : j = i
      · subst hj
        rw [hi] at e1; cases e1
        rw [List.getElem?_set_self hiσ] at e2
        cases e2
        exact ⟨u, r, .inr ⟨.inl hk, c, hc, hc'⟩⟩
      · rw [List.getElem?_set_ne (Ne.symm hj)] at e2
        obtain ⟨u', r', q⟩ := hl j y v' e1 e2 e3
        refine ⟨u', r', ?_⟩
        rcases q with q | ⟨k, c', e, z'⟩
        · exact .inl q
        · refine .inr ⟨k, c', e, z'.sameBut hs ?_⟩
          rintro rfl
          exact hj (nodup_ix hN e1 (I.ok.inj _ _ _ e hc ▸ hi))
    · by_cases hcc : c' = c
      · subst hcc; exact ⟨_, hc'⟩
      · obtain ⟨w2, z2⟩ := I.cell y c' e
        exact ⟨w2, z2.sameBut hs hcc⟩
    · obtain ⟨e, n, ne, nf, d⟩ := I.pin p hp
      refine ⟨(hs.2 p.1 ?_).trans e, n, ne, nf, d⟩
      intro q
      rw [q, hoc] at e
      have q' : oc = p.2 := Option.some.inj e
      exact d w' (by rw [← q']; exact hocd)
theorem store_ok {M : Model} {A : Around} {E : Value → Shared → Prop} {i : Nat} {x : Str} {v : V} {u : Value} {Q : Unit → Shared → Prop} (I : Inv X pins σ H s) (hN : X.N.Nodup) (hi : X.N[i]? = some x) (hx : Loc X.env.scope x) (r : RelV v u)
    (h : ∀ s', Inv X pins (σ.set i (some v)) H s' → Q () s') (hf : X.fn x = true ∨ X.env.scope.names.lookup x = some .local := by first | exact .inl rfl | exact .inr rfl | assumption) : wpAny M A (storeName X.env x u) Q E s :=
  store_ok2 I hN hi hx r (fun s' I' _ => h s' I') hf
/-- behind a call or a block, the state as it is -/
theorem Inv.call' {s' : Shared} {ch : List Addr} (I : Inv X pins σ H s) (ho : s'.os = s.os) (u : Un (frs X.stack) ch H H' s.heap s'.heap) (hok : HOk X.prog X.w H' s'.heap) (hg : AllBare s'.gens)
    (hch : ∀ b ∈ ch, (b ∈ X.ex ∨ X.s₀.heap.objs.size ≤ b) ∧ b ≠ X.env.locals ∧ (∀ x c, X.env.cells.lookup x = some c → c ≠ b) ∧ ∀ p ∈ X.pn ++ pins, p.1 ≠ b) : Inv X pins σ H' s' := by
  obtain ⟨h', g', d', t', o'⟩ := s'
  have e : o' = s.os := ho
  subst e
  exact I.call (g' := g') (t' := t') (d' := d') u hok hg hch
end

/-! ### the judgements -/
/-- an exception: its class, its own dict's address (where it has one), the abstract heap behind it -/
abbrev XK := Value → Option Addr → Hp → Prop
abbrev St := List (Option V)
abbrev VK := V → Hp → Prop
/-- an expression's reading; a test's; an argument list's -/
abbrev TE := St → Hp → VK → Prop
abbrev TT := St → Hp → (Bool → Hp → Prop) → Prop
abbrev TA := St → Hp → (List V → Hp → Prop) → Prop
/-- what is wanted behind a statement -/
structure Ends where
  nx : St → Hp → Prop
  rt : VK
  bk : St → Hp → Prop := fun _ _ => False
  ct : St → Hp → Prop := fun _ _ => False
abbrev TS := Ends → St → Hp → Prop

def EP (X : Cx) (pins : List (Addr × Obj)) (σ : St) (Q : VK) (u : Value) (s' : Shared) : Prop := ∃ v H', Inv X pins σ H' s' ∧ RelV v u ∧ Q v H'
def TP (X : Cx) (pins : List (Addr × Obj)) (σ : St) (Q : Bool → Hp → Prop) (b : Bool) (s' : Shared) : Prop := ∃ H', Inv X pins σ H' s' ∧ Q b H'
def AP (X : Cx) (pins : List (Addr × Obj)) (σ : St) (Q : List V → Hp → Prop) (us : List Value) (s' : Shared) : Prop := ∃ vs H', Inv X pins σ H' s' ∧ Vals vs us ∧ Q vs H'
def SP (X : Cx) (pins : List (Addr × Obj)) (D : Ends) (f : Flow) (s' : Shared) : Prop :=
  match f with
  | .next => ∃ σ' H', Inv X pins σ' H' s' ∧ D.nx σ' H'
  | .brk => ∃ σ' H', Inv X pins σ' H' s' ∧ D.bk σ' H'
  | .cont => ∃ σ' H', Inv X pins σ' H' s' ∧ D.ct σ' H'
  | .ret u => ∃ v σ' H', Inv X pins σ' H' s' ∧ RelV v u ∧ D.rt v H'

def PE (X : Cx) (e : Expr) (t : TE) : Prop :=
  ∀ (pins : List (Addr × Obj)) (s : Shared) (σ : St) (H : Hp) (Q : VK), Inv X pins σ H s → t σ H Q → wpAny (model X.prog X.w) X.A (eval e X.env) (EP X pins σ Q) X.xe s
def PT (X : Cx) (e : Expr) (t : TT) : Prop :=
  ∀ (pins : List (Addr × Obj)) (s : Shared) (σ : St) (H : Hp) (Q : Bool → Hp → Prop), Inv X pins σ H s → t σ H Q → wpAny (model X.prog X.w) X.A (isTrue e X.env (eval e X.env)) (TP X pins σ Q) X.xe s
/-- a test whatever its 'whole' is (and, or) -/
def PW (X : Cx) (e : Expr) (t : TT) : Prop :=
  ∀ (whole : Sem Value) (pins : List (Addr × Obj)) (s : Shared) (σ : St) (H : Hp) (Q : Bool → Hp → Prop), Inv X pins σ H s → t σ H Q → wpAny (model X.prog X.w) X.A (isTrue e X.env whole) (TP X pins σ Q) X.xe s
theorem PW.pt {X : Cx} {e : Expr} {t : TT} (h : PW X e t) : PT X e t := h _
/-- an argument list (no star), from the left -/
def PA (X : Cx) (es : List Expr) (t : TA) : Prop :=
  ∀ (pos : Pos) (pins : List (Addr × Obj)) (s : Shared) (σ : St) (H : Hp) (Q : List V → Hp → Prop), Inv X pins σ H s → t σ H Q → wpAny (model X.prog X.w) X.A (spliced (backTo pos (starEach es X.env))) (AP X pins σ Q) X.xe s
def PS (X : Cx) (st : Stmt) (t : TS) : Prop :=
  ∀ (pins : List (Addr × Obj)) (s : Shared) (σ : St) (H : Hp) (D : Ends), Inv X pins σ H s → t D σ H → wpAny (model X.prog X.w) X.A (exec st X.env) (SP X pins D) X.xe s
def PSs (X : Cx) (st : List Stmt) (t : TS) : Prop :=
  ∀ (pins : List (Addr × Obj)) (s : Shared) (σ : St) (H : Hp) (D : Ends), Inv X pins σ H s → t D σ H → wpAny (model X.prog X.w) X.A (execs st X.env) (SP X pins D) X.xe s
/-- weaken the end -/
theorem thn {α : Type} {t : Sem α} {Q Q' : α → Shared → Prop} {M : Model} {A : Around} {E : Value → Shared → Prop} {s : Shared} (h : wpAny M A t Q E s) (hQ : ∀ a s, Q a s → Q' a s) : wpAny M A t Q' E s := wpAny_mono h hQ fun _ _ x => x
end L2

namespace L2
open PySem PySem.Spec PyProof.Rows
section
variable {X : Cx}

/-- two expressions in a row -/
theorem bin {a b : Expr} {ta tb : TE} (ha : PE X a ta) (hb : PE X b tb) {pins : List (Addr × Obj)} {s : Shared} {σ : St} {H : Hp} {R : V → V → Hp → Prop} (I : Inv X pins σ H s) (h : ta σ H fun x H1 => tb σ H1 fun y H2 => R x y H2)
    {α : Type} {Q : α → Shared → Prop} {f : Value → Value → Sem α}
    (hf : ∀ v u s2 x y H2, Inv X pins σ H2 s2 → RelV x v → RelV y u → R x y H2 → wpAny (model X.prog X.w) X.A (f v u) Q X.xe s2) :
    wpAny (model X.prog X.w) X.A (eval a X.env) (fun v s₁ => wpAny (model X.prog X.w) X.A (eval b X.env) (fun u s₂ => wpAny (model X.prog X.w) X.A (f v u) Q X.xe s₂) X.xe s₁) X.xe s := by
  refine thn (ha pins s σ H _ I h) fun v s1 ⟨x, H1, I1, r1, q1⟩ => ?_
  refine thn (hb pins s1 σ H1 _ I1 q1) fun u s2 ⟨y, H2, I2, r2, q2⟩ => ?_
  exact hf v u s2 x y H2 I2 r1 r2 q2

/-! ### names and constants -/
def tVar (i : Nat) : TE := fun σ H Q => ∃ v, σ[i]? = some (some v) ∧ Q v H
def tC (v : V) : TE := fun _ H Q => Q v H
theorem pe_var {i : Nat} {x : Str} {pos : Pos} (hN : X.N[i]? = some x) (hv : Vis X.env.scope x) (hd : (x == ("__debug__" : Str)) = false := by decide) (hcd : (x == ("__classdict__" : Str)) = false := by decide) : PE X (.Name x pos) (tVar i) := by
  intro pins s σ H Q I h
  obtain ⟨v, e, h⟩ := h
  obtain ⟨m, hn, hl⟩ := I.loc
  obtain ⟨u, r, l⟩ := hl i x v hN e hv
  have fin : EP X pins σ Q u s := ⟨v, H, I, r, h⟩
  rcases l with ⟨hk, hm⟩ | ⟨hk, c, hc, hcell⟩
  · exact wpAny_Name (wpAny_loadName_local I.ok.kind hk hn hm fin) hd
  · rcases hk with hk | hk
    · exact wpAny_Name (wpAny_loadName_cell I.ok.kind hk hc hcell fin) hd
    · exact wpAny_Name (wpAny_loadName_free I.ok.kind hk hc hcell fin hcd) hd
theorem pe_int {i j pos} : PE X (.Constant (.int i) j pos) (tC (.int i)) := fun _ _ _ H _ I h => wpAny_Constant_int ⟨.int i, H, I.tok _, ⟨_, rfl⟩, h⟩
theorem pe_bl {b j pos} : PE X (.Constant (.bool b) j pos) (tC (.bl b)) := fun _ _ _ H _ I h => Constant_bool ⟨.bl b, H, I, rfl, h⟩
theorem pe_non {j pos} : PE X (.Constant .none j pos) (tC .non) := fun _ _ _ H _ I h => Constant_none ⟨.non, H, I, rfl, h⟩
theorem pe_str {x j pos} : PE X (.Constant (.str x) j pos) (tC (.str x)) := fun _ _ _ H _ I h => Calls.Constant_str ⟨.str x, H, I.tok _, ⟨_, rfl⟩, h⟩

/-- a global name of the def -/
def Gl (X : Cx) (x : Str) : Prop := X.env.kindOf x = some .globalImplicit
theorem ld_glob {E : Value → Shared → Prop} {pins : List (Addr × Obj)} {s : Shared} {σ : St} {H : Hp} {x : Str} {u : Value} {pos : Pos} {Q : Value → Shared → Prop} (I : Inv X pins σ H s) (hg : Gl X x) (hm : X.mg x = some u) (h : Q u s)
    (hd : (x == ("__debug__" : Str)) = false := by decide) : wpAny (model X.prog X.w) X.A (eval (.Name x pos) X.env) Q E s :=
  Calls.Name_function_global I.ok.kind hg (Calls.loadGlobal_global (by rw [I.ok.glob]; exact I.mod.glob.keeps I.bk) hm h) hd
theorem ld_blt {E : Value → Shared → Prop} {pins : List (Addr × Obj)} {s : Shared} {σ : St} {H : Hp} {x : Str} {u : Value} {pos : Pos} {Q : Value → Shared → Prop} (I : Inv X pins σ H s) (hg : Gl X x) (hm : X.mg x = none) (hv : bootBuiltins x = some u) (h : Q u s)
    (hn : x ≠ "__name__" := by decide) (hd : (x == ("__debug__" : Str)) = false := by decide) : wpAny (model X.prog X.w) X.A (eval (.Name x pos) X.env) Q E s := by
  obtain ⟨mb, h1, h2⟩ := I.mod.blt
  exact Calls.Name_function_global I.ok.kind hg (Calls.loadGlobal_builtin (by rw [I.ok.glob]; exact I.mod.glob.keeps I.bk) hm (by rw [I.ok.blt]; exact h1.keeps I.bk) ((h2 x hn).trans hv) h) hd
/-- a module's constant, a class, a function, as a value -/
theorem pe_glob {x : Str} {v : V} {u : Value} {pos : Pos} (hg : Gl X x) (hm : X.mg x = some u) (r : RelV v u) (hd : (x == ("__debug__" : Str)) = false := by decide) : PE X (.Name x pos) (tC v) :=
  fun _ _ _ H _ I h => ld_glob I hg hm ⟨v, H, I, r, h⟩ hd
theorem pe_bltn {x : Str} {v : V} {u : Value} {pos : Pos} (hg : Gl X x) (hm : X.mg x = none) (hv : bootBuiltins x = some u) (r : RelV v u) (hn : x ≠ "__name__" := by decide) (hd : (x == ("__debug__" : Str)) = false := by decide) : PE X (.Name x pos) (tC v) :=
  fun _ _ _ H _ I h => ld_blt I hg hm hv ⟨v, H, I, r, h⟩ hn hd

/-! ### arithmetic -/
/-- two ints -/
def t2I (ta tb : TE) (k : Int → Int → Hp → Prop) : St → Hp → Prop := fun σ H => ta σ H fun x H1 => tb σ H1 fun y H2 => ∃ i j, x = .int i ∧ y = .int j ∧ k i j H2
def tAdd (ta tb : TE) : TE := fun σ H Q => t2I ta tb (fun i j H2 => Q (.int (i + j)) H2) σ H
def tSub (ta tb : TE) : TE := fun σ H Q => t2I ta tb (fun i j H2 => Q (.int (i - j)) H2) σ H
/-- the left factor below 2^64 -/
def tMul (ta tb : TE) : TE := fun σ H Q => t2I ta tb (fun i j H2 => (-(2 ^ 64) < i ∧ i < 2 ^ 64) ∧ Q (.int (i * j)) H2) σ H
variable {a b : Expr} {ta tb : TE} {pos : Pos}
theorem pe_add (ha : PE X a ta) (hb : PE X b tb) : PE X (.BinOp a .Add b pos) (tAdd ta tb) := by
  intro pins s σ H Q I h
  refine wpAny_BinOp (bin ha hb I h fun v u s2 x y H2 I2 rx ry q => ?_)
  obtain ⟨i, j, rfl, rfl, q⟩ := q
  obtain ⟨t, rfl⟩ := rx
  obtain ⟨t', rfl⟩ := ry
  exact add_int ⟨.int _, H2, I2.tok _, ⟨_, rfl⟩, q⟩
theorem pe_sub (ha : PE X a ta) (hb : PE X b tb) : PE X (.BinOp a .Sub b pos) (tSub ta tb) := by
  intro pins s σ H Q I h
  refine wpAny_BinOp (bin ha hb I h fun v u s2 x y H2 I2 rx ry q => ?_)
  obtain ⟨i, j, rfl, rfl, q⟩ := q
  obtain ⟨t, rfl⟩ := rx
  obtain ⟨t', rfl⟩ := ry
  exact sub_int ⟨.int _, H2, I2.tok _, ⟨_, rfl⟩, q⟩
theorem pe_mul (ha : PE X a ta) (hb : PE X b tb) : PE X (.BinOp a .Mult b pos) (tMul ta tb) := by
  intro pins s σ H Q I h
  refine wpAny_BinOp (bin ha hb I h fun v u s2 x y H2 I2 rx ry q => ?_)
  obtain ⟨i, j, rfl, rfl, ⟨q1, q2⟩, q⟩ := q
  obtain ⟨t, rfl⟩ := rx
  obtain ⟨t', rfl⟩ := ry
  exact mul_int ⟨.int _, H2, I2.tok _, ⟨_, rfl⟩, q⟩ (.of_left (intBits_le_64 q1 q2))

/-! ### comparisons -/
def PC (X : Cx) (op : CmpOp) (a b : Expr) (t : TE) : Prop :=
  ∀ (pins : List (Addr × Obj)) (s : Shared) (σ : St) (H : Hp) (Q : VK), Inv X pins σ H s → t σ H Q →
    wpAny (model X.prog X.w) X.A (eval a X.env) (fun v s₁ => wpAny (model X.prog X.w) X.A (eval b X.env) (fun u s₂ => wpAny (model X.prog X.w) X.A (compareOp op v u) (EP X pins σ Q) X.xe s₂) X.xe s₁) X.xe s
theorem nobehind (b : Expr) {op : CmpOp} (h : op ≠ .In) (h2 : op ≠ .NotIn) : behindInMarks op b = false := by
  have e1 : (op == CmpOp.In) = false := by cases op <;> first | rfl | exact absurd rfl h
  have e2 : (op == CmpOp.NotIn) = false := by cases op <;> first | rfl | exact absurd rfl h2
  cases b <;> simp [behindInMarks, e1, e2]
def tCmp (p : Int → Int → Bool) (ta tb : TE) : TE := fun σ H Q => t2I ta tb (fun i j H2 => Q (.bl (p i j)) H2) σ H
abbrev tLt : TE → TE → TE := tCmp fun i j => decide (i < j)
abbrev tLe : TE → TE → TE := tCmp fun i j => decide (i ≤ j)
abbrev tGt : TE → TE → TE := tCmp fun i j => decide (j < i)
abbrev tGe : TE → TE → TE := tCmp fun i j => decide (j ≤ i)
abbrev tEqI : TE → TE → TE := tCmp fun i j => decide (i = j)
abbrev tNeI : TE → TE → TE := tCmp fun i j => !decide (i = j)
/-- a comparison of two ints, by its rule -/
theorem pc_int {op : CmpOp} {p : Int → Int → Bool} (ha : PE X a ta) (hb : PE X b tb)
    (rule : ∀ (i j : Int) (t u : Tok) (Q : Value → Shared → Prop) (s : Shared), Q (.bool (p i j)) s → wpAny (model X.prog X.w) X.A (compareOp op (.int i t) (.int j u)) Q X.xe s) : PC X op a b (tCmp p ta tb) := by
  intro pins s σ H Q I h
  refine bin ha hb I h fun v u s2 x y H2 I2 rx ry q => ?_
  obtain ⟨i, j, rfl, rfl, q⟩ := q
  obtain ⟨t, rfl⟩ := rx
  obtain ⟨t', rfl⟩ := ry
  exact rule i j t t' _ s2 ⟨.bl _, H2, I2, rfl, q⟩
theorem pc_lt (ha : PE X a ta) (hb : PE X b tb) : PC X .Lt a b (tLt ta tb) := pc_int ha hb fun _ _ _ _ _ _ h => lt_int h
theorem pc_le (ha : PE X a ta) (hb : PE X b tb) : PC X .LtE a b (tLe ta tb) := pc_int ha hb fun _ _ _ _ _ _ h => le_int h
theorem pc_gt (ha : PE X a ta) (hb : PE X b tb) : PC X .Gt a b (tGt ta tb) := pc_int ha hb fun _ _ _ _ _ _ h => gt_int h
theorem pc_ge (ha : PE X a ta) (hb : PE X b tb) : PC X .GtE a b (tGe ta tb) := pc_int ha hb fun _ _ _ _ _ _ h => ge_int h
theorem pc_eqI (ha : PE X a ta) (hb : PE X b tb) : PC X .Eq a b (tEqI ta tb) := pc_int ha hb fun _ _ _ _ _ _ h => eq_int (by rw [Bool.beq_eq_decide_eq]; exact h)
theorem pc_neI (ha : PE X a ta) (hb : PE X b tb) : PC X .NotEq a b (tNeI ta tb) := pc_int ha hb fun _ _ _ _ _ _ h => ne_int (by rw [bne, Bool.beq_eq_decide_eq]; exact h)
/-- is None -/
def tIsN (ta : TE) : TE := fun σ H Q => ta σ H fun x H1 => Q (.bl (decide (x = .non))) H1
def tNotN (ta : TE) : TE := fun σ H Q => ta σ H fun x H1 => Q (.bl (!decide (x = .non))) H1
theorem RelV.none_iff {x : V} {v : Value} (r : RelV x v) : (v == Value.none) = decide (x = .non) := by
  cases x with
  | non => cases r; rfl
  | bl _ => cases r; rfl
  | int _ => obtain ⟨t, rfl⟩ := r; rfl
  | str _ => obtain ⟨t, rfl⟩ := r; rfl
  | byt _ => obtain ⟨t, rfl⟩ := r; rfl
  | flt _ => obtain ⟨t, rfl⟩ := r; rfl
  | ref _ => cases r; rfl
  | ty _ => cases r; rfl
theorem pc_isN {j pos'} (ha : PE X a ta) : PC X .Is a (.Constant .none j pos') (tIsN ta) := by
  intro pins s σ H Q I h
  refine thn (ha pins s σ H _ I h) fun v s1 ⟨x, H1, I1, r1, q1⟩ => ?_
  exact Constant_none (is_none_gen ⟨.bl _, H1, I1, by rw [r1.none_iff]; rfl, q1⟩)
theorem pc_notN {j pos'} (ha : PE X a ta) : PC X .IsNot a (.Constant .none j pos') (tNotN ta) := by
  intro pins s σ H Q I h
  refine thn (ha pins s σ H _ I h) fun v s1 ⟨x, H1, I1, r1, q1⟩ => ?_
  exact Constant_none (isnot_none_gen ⟨.bl _, H1, I1, by rw [r1.none_iff]; rfl, q1⟩)
/-- a comparison as a value, as a test -/
def tB (t : TE) : TT := fun σ H Q => t σ H fun x H1 => ∃ c, x = .bl c ∧ Q c H1
theorem pe_cmp {op : CmpOp} {t : TE} (h : PC X op a b t) (h1 : behindInMarks op b = false := by first | exact nobehind _ (by decide) (by decide) | rfl) : PE X (.Compare a [op] [b] pos) t := fun pins s σ H Q I hw => wpAny_Compare1 (h pins s σ H Q I hw) h1
theorem pt_cmp {op : CmpOp} {t : TE} (h : PC X op a b t) (h1 : behindInMarks op b = false := by first | exact nobehind _ (by decide) (by decide) | rfl) : PT X (.Compare a [op] [b] pos) (tB t) := by
  intro pins s σ H Q I hw
  refine wpAny_isTrue_Compare1 (thn (h pins s σ H _ I hw) fun v s1 h1 => thn h1 fun u s2 h2 => thn h2 fun c s3 ⟨x, H1, I1, r1, q1⟩ => ?_) h1
  obtain ⟨d, rfl, q⟩ := q1
  cases r1
  exact wpAny_truthy_bool ⟨H1, I1, q⟩
/-- an expression whose value is a bool, as a test -/
theorem pt_val {e : Expr} {t : TE} (h : PE X e t) (he : ∀ whole, isTrue e X.env whole = (do let v ← whole; standAt e.pos; holding [v] (truthy v)) := by intro _; rfl) : PT X e (tB t) := by
  intro pins s σ H Q I hw
  refine isTrue_plain (thn (h pins s σ H _ I hw) fun v s1 ⟨x, H1, I1, r1, q1⟩ => ?_) (he _)
  obtain ⟨d, rfl, q⟩ := q1
  cases r1
  exact wpAny_truthy_bool ⟨H1, I1, q⟩

/-! ### and, or, not -/
variable {tA tB' : TT} {rest : List Expr}
def tAnd (t u : TT) : TT := fun σ H Q => t σ H fun c H1 => if c = true then u σ H1 Q else Q false H1
def tOr (t u : TT) : TT := fun σ H Q => t σ H fun c H1 => if c = true then Q true H1 else u σ H1 Q
def tNot (t : TT) : TT := fun σ H Q => t σ H fun c H1 => Q (!c) H1
theorem pw_and1 (ha : PT X a tA) : PW X (.BoolOp .And [a] pos) tA := by
  intro wh pins s σ H Q I h
  refine isTrue_and (thn (ha pins s σ H Q I h) fun c s1 e => ?_)
  cases c with
  | true => exact isTrue_and_nil e
  | false => exact e
theorem pw_or1 (ha : PT X a tA) : PW X (.BoolOp .Or [a] pos) tA := by
  intro wh pins s σ H Q I h
  refine isTrue_or (thn (ha pins s σ H Q I h) fun c s1 e => ?_)
  cases c with
  | false => exact isTrue_or_nil e
  | true => exact e
theorem pw_and (ha : PT X a tA) (hb : PW X (.BoolOp .And (b :: rest) pos) tB') : PW X (.BoolOp .And (a :: b :: rest) pos) (tAnd tA tB') := by
  intro wh pins s σ H Q I h
  refine isTrue_and (thn (ha pins s σ H _ I h) fun c s1 ⟨H1, I1, q1⟩ => ?_)
  cases c with
  | true => exact hb wh pins s1 σ H1 Q I1 q1
  | false => exact ⟨H1, I1, q1⟩
theorem pw_or (ha : PT X a tA) (hb : PW X (.BoolOp .Or (b :: rest) pos) tB') : PW X (.BoolOp .Or (a :: b :: rest) pos) (tOr tA tB') := by
  intro wh pins s σ H Q I h
  refine isTrue_or (thn (ha pins s σ H _ I h) fun c s1 ⟨H1, I1, q1⟩ => ?_)
  cases c with
  | true => exact ⟨H1, I1, q1⟩
  | false => exact hb wh pins s1 σ H1 Q I1 q1
theorem pt_not (ha : PT X a tA) : PT X (.UnaryOp .Not a pos) (tNot tA) := by
  intro pins s σ H Q I h
  exact isTrue_not (ha pins s σ H (fun c H1 => Q (!c) H1) I h)
/-- .. as values (bools) -/
def tAndV (ta tb : TE) : TE := fun σ H Q => ta σ H fun x H1 => ∃ c, x = .bl c ∧ if c = true then tb σ H1 Q else Q (.bl false) H1
def tOrV (ta tb : TE) : TE := fun σ H Q => ta σ H fun x H1 => ∃ c, x = .bl c ∧ if c = true then Q (.bl true) H1 else tb σ H1 Q
def tNotV (ta : TE) : TE := fun σ H Q => ta σ H fun x H1 => ∃ c, x = .bl c ∧ Q (.bl (!c)) H1
theorem pe_one {op} {t : TE} (h : PE X a t) : PE X (.BoolOp op [a] pos) t := fun pins s σ H Q I hw => BoolOp_one (h pins s σ H Q I hw)
theorem pe_and (ha : PE X a ta) (hb : PE X (.BoolOp .And (b :: rest) pos) tb) : PE X (.BoolOp .And (a :: b :: rest) pos) (tAndV ta tb) := by
  intro pins s σ H Q I h
  refine BoolOp_and (thn (ha pins s σ H _ I h) fun v s1 ⟨x, H1, I1, r1, q1⟩ => ?_)
  obtain ⟨c, rfl, q1⟩ := q1
  cases r1
  refine wpAny_truthy_bool ?_
  cases c with
  | true => exact hb pins s1 σ H1 Q I1 q1
  | false => exact ⟨.bl false, H1, I1, rfl, q1⟩
theorem pe_or (ha : PE X a ta) (hb : PE X (.BoolOp .Or (b :: rest) pos) tb) : PE X (.BoolOp .Or (a :: b :: rest) pos) (tOrV ta tb) := by
  intro pins s σ H Q I h
  refine BoolOp_or (thn (ha pins s σ H _ I h) fun v s1 ⟨x, H1, I1, r1, q1⟩ => ?_)
  obtain ⟨c, rfl, q1⟩ := q1
  cases r1
  refine wpAny_truthy_bool ?_
  cases c with
  | false => exact hb pins s1 σ H1 Q I1 q1
  | true => exact ⟨.bl true, H1, I1, rfl, q1⟩
theorem pe_not (ha : PE X a ta) : PE X (.UnaryOp .Not a pos) (tNotV ta) := by
  intro pins s σ H Q I h
  refine UnaryOp_ (thn (ha pins s σ H _ I h) fun v s1 ⟨x, H1, I1, r1, q1⟩ => ?_)
  obtain ⟨c, rfl, q1⟩ := q1
  cases r1
  exact not_of (wpAny_truthy_bool ⟨.bl (!c), H1, I1, rfl, q1⟩)
/-- a if t else b -/
def tIf (t : TT) (ta tb : TE) : TE := fun σ H Q => t σ H fun c H1 => if c = true then ta σ H1 Q else tb σ H1 Q
theorem pe_ifExp {c : Expr} (hc : PT X c tA) (ha : PE X a ta) (hb : PE X b tb) : PE X (.IfExp c a b pos) (tIf tA ta tb) := by
  intro pins s σ H Q I h
  refine wpAny_IfExp (thn (hc pins s σ H _ I h) fun d s1 ⟨H1, I1, q1⟩ => ?_)
  cases d with
  | true => exact ha pins s1 σ H1 Q I1 q1
  | false => exact hb pins s1 σ H1 Q I1 q1
end
end L2

namespace L2
open PySem PySem.Spec PyProof.Rows

/-! ### a list, a tuple that is read: tracked, frozen, or an object of the module -/
def SqL (K : PySem.W.Frag) (H : Hp) (a : Addr) (xs : List V) : Prop :=
  Rd H a (.lst xs) ∨
    ∃ (o : Obj) (its : Array Value) (n : Nat), K.lookup a = some o ∧ o.cls = .type "list" ∧ o.dict = none ∧ o.data = .seq its n ∧ its.size ≤ sizeLine ∧ Vals xs its.toList
def SqT (K : PySem.W.Frag) (H : Hp) (a : Addr) (xs : List V) : Prop :=
  Rd H a (.tup xs) ∨
    ∃ (o : Obj) (its : Array Value) (n : Nat), K.lookup a = some o ∧ o.cls = .type "tuple" ∧ o.data = .seq its n ∧ its.size ≤ sizeLine ∧ Vals xs its.toList
def absV : Value → Option V
  | .none => some .non
  | .bool b => some (.bl b)
  | .int i _ => some (.int i)
  | .str x _ => some (.str x)
  | .bytes b _ => some (.byt b)
  | .float b _ => some (.flt b)
  | .ref a => some (.ref a)
  | .type n => some (.ty n)
  | _ => none
theorem RelV.abs {x : V} {u : Value} (r : RelV x u) : absV u = some x := by
  cases x with
  | non => cases r; rfl
  | bl _ => cases r; rfl
  | int _ => obtain ⟨t, rfl⟩ := r; rfl
  | str _ => obtain ⟨t, rfl⟩ := r; rfl
  | byt _ => obtain ⟨t, rfl⟩ := r; rfl
  | flt _ => obtain ⟨t, rfl⟩ := r; rfl
  | ref _ => cases r; rfl
  | ty _ => cases r; rfl
theorem RelV.inj {x y : V} {u : Value} (r : RelV x u) (q : RelV y u) : x = y := Option.some.inj (r.abs.symm.trans q.abs)
theorem Vals.inj : ∀ {xs ys : List V} {us : List Value}, Vals xs us → Vals ys us → xs = ys
  | _, _, _, .nil, .nil => rfl
  | _, _, _, .cons r t, .cons r' t' => by rw [r.inj r', Vals.inj t t']
section
variable {X : Cx} {pins : List (Addr × Obj)} {σ : St} {H : Hp} {s : Shared} {a : Addr} {xs ys : List V}
theorem SqL.of {K : PySem.W.Frag} (h : H a = some (.lst xs)) : SqL K H a xs := .inl (.inl h)
theorem SqT.of {K : PySem.W.Frag} (h : H a = some (.tup xs)) : SqT K H a xs := .inl (.inl h)
theorem Inv.list (I : Inv X pins σ H s) (h : SqL X.K H a xs) : ∃ its : List Value, Vals xs its ∧ PlainL s.heap a its.toArray ∧ xs.length ≤ sizeLine := by
  rcases h with h | ⟨o, its, n, hk, hc, hd, hs, hz, r⟩
  · obtain ⟨z, its, n, r, e⟩ := h.ok I.hok
    exact ⟨its, r, ⟨_, n, e, rfl, rfl, rfl⟩, z⟩
  · refine ⟨its.toList, r, ⟨o, n, I.kIn a o hk, hc, hd, by simpa using hs⟩, ?_⟩
    have e := r.length
    simp only [Array.length_toList] at e
    omega
theorem Inv.tuple (I : Inv X pins σ H s) (h : SqT X.K H a xs) : ∃ its : List Value, Vals xs its ∧ IsTup s.heap a its.toArray ∧ xs.length ≤ sizeLine := by
  rcases h with h | ⟨o, its, n, hk, hc, hs, hz, r⟩
  · obtain ⟨z, its, r, p⟩ := h.ok I.hok
    exact ⟨its, r, p, z⟩
  · refine ⟨its.toList, r, ⟨o, I.kIn a o hk, hc, n, by simpa using hs⟩, ?_⟩
    have e := r.length
    simp only [Array.length_toList] at e
    omega
theorem Inv.list_inj (I : Inv X pins σ H s) (h : SqL X.K H a xs) (h' : SqL X.K H a ys) : xs = ys := by
  obtain ⟨its, r, ⟨o, n, e, _, _, d⟩, _⟩ := I.list h
  obtain ⟨its', r', ⟨o', n', e', _, _, d'⟩, _⟩ := I.list h'
  rw [e] at e'; cases e'
  rw [d] at d'
  injection d' with d1 _
  have : its = its' := by simpa using congrArg Array.toList d1
  subst this
  exact r.inj r'
theorem Inv.tuple_inj (I : Inv X pins σ H s) (h : SqT X.K H a xs) (h' : SqT X.K H a ys) : xs = ys := by
  obtain ⟨its, r, ⟨o, e, _, n, d⟩, _⟩ := I.tuple h
  obtain ⟨its', r', ⟨o', e', _, n', d'⟩, _⟩ := I.tuple h'
  rw [e] at e'; cases e'
  rw [d] at d'
  injection d' with d1 _
  have : its = its' := by simpa using congrArg Array.toList d1
  subst this
  exact r.inj r'
end

/-! ### another wish about exceptions -/
abbrev Cx.wish (X : Cx) (E : Value → Shared → Prop) : Cx := { X with xe := E }
/-- no exception leaves -/
abbrev Cx.nox (X : Cx) : Cx := X.wish fun _ _ => False
theorem Cx.Ok.wish {X : Cx} (ok : X.Ok) (E : Value → Shared → Prop) : (X.wish E).Ok :=
  ⟨ok.mod, ok.kind, ok.glob, ok.blt, ok.above, ok.inj, ok.has, ok.cab, ok.hd, ok.frames, ok.stk, ok.exf, ok.bs, ok.bsz, ok.noex, ok.exfs, ok.funs, ok.frf⟩
theorem Cx.Ok.unwish {X : Cx} {E : Value → Shared → Prop} (ok : (X.wish E).Ok) : X.Ok :=
  ⟨ok.mod, ok.kind, ok.glob, ok.blt, ok.above, ok.inj, ok.has, ok.cab, ok.hd, ok.frames, ok.stk, ok.exf, ok.bs, ok.bsz, ok.noex, ok.exfs, ok.funs, ok.frf⟩
section
variable {X : Cx} {pins : List (Addr × Obj)} {σ : St} {H : Hp} {s : Shared} {E : Value → Shared → Prop}
theorem Inv.wish (I : Inv X pins σ H s) (E : Value → Shared → Prop) : Inv (X.wish E) pins σ H s := ⟨I.ok.wish E, I.os, I.bare, I.base, I.loc, I.cell, I.free, I.freeC, I.pin, I.hok, I.len⟩
theorem Inv.unwish (I : Inv (X.wish E) pins σ H s) : Inv X pins σ H s := ⟨I.ok.unwish, I.os, I.bare, I.base, I.loc, I.cell, I.free, I.freeC, I.pin, I.hok, I.len⟩
theorem SP.unwish {D : Ends} {f : Flow} {s' : Shared} (h : SP (X.wish E) pins D f s') : SP X pins D f s' := by
  cases f with
  | next => obtain ⟨σ', H', I, q⟩ := h; exact ⟨σ', H', I.unwish, q⟩
  | brk => obtain ⟨σ', H', I, q⟩ := h; exact ⟨σ', H', I.unwish, q⟩
  | cont => obtain ⟨σ', H', I, q⟩ := h; exact ⟨σ', H', I.unwish, q⟩
  | ret u => obtain ⟨v, σ', H', I, r, q⟩ := h; exact ⟨v, σ', H', I.unwish, r, q⟩
theorem PE.nox {e : Expr} {t : TE} (h : PE X.nox e t) : PE X e t := fun pins s σ H Q I hw =>
  wpAny_mono (h pins s σ H Q (I.wish _) hw) (fun _ _ ⟨v, H', I', r, q⟩ => ⟨v, H', I'.unwish, r, q⟩) fun _ _ z => False.elim z
theorem PT.nox {e : Expr} {t : TT} (h : PT X.nox e t) : PT X e t := fun pins s σ H Q I hw =>
  wpAny_mono (h pins s σ H Q (I.wish _) hw) (fun _ _ ⟨H', I', q⟩ => ⟨H', I'.unwish, q⟩) fun _ _ z => False.elim z
theorem PSs.nox {st : List Stmt} {t : TS} (h : PSs X.nox st t) : PSs X st t := fun pins s σ H D I hw =>
  wpAny_mono (h pins s σ H D (I.wish _) hw) (fun _ _ q => q.unwish) fun _ _ z => False.elim z
end

/-! ### blocks and small statements -/
section
variable {X : Cx} {st : Stmt} {rest : List Stmt} {t u : TS} {e : Expr} {te : TE} {pos : Pos}
def tNext : TS := fun D σ H => D.nx σ H
def tSeq (t u : TS) : TS := fun D σ H => t { D with nx := u D } σ H
theorem pss_nil : PSs X [] tNext := fun _ _ σ H _ I h => wpAny_execs_nil ⟨σ, H, I, h⟩
theorem pss_cons (h1 : PS X st t) (h2 : PSs X rest u) : PSs X (st :: rest) (tSeq t u) := by
  intro pins s σ H D I h
  refine wpAny_execs_cons (thn (h1 pins s σ H { D with nx := u D } I h) fun f s1 q => ?_)
  cases f with
  | next =>
    obtain ⟨σ', H', I', q⟩ := q
    exact h2 pins s1 σ' H' D I' q
  | ret v => exact q
  | brk => exact q
  | cont => exact q
theorem pss_one (h1 : PS X st t) : PSs X [st] t := by
  intro pins s σ H D I h
  refine wpAny_execs_cons (thn (h1 pins s σ H D I h) fun f s1 q => ?_)
  cases f with
  | next => exact wpAny_execs_nil q
  | ret v => exact q
  | brk => exact q
  | cont => exact q
def tBreak : TS := fun D σ H => D.bk σ H
def tCont : TS := fun D σ H => D.ct σ H
theorem ps_pass : PS X (.Pass pos) tNext := fun _ _ σ H _ I h => wpAny_Pass ⟨σ, H, I, h⟩
theorem ps_break : PS X (.Break pos) tBreak := fun _ _ σ H _ I h => wpAny_Break ⟨σ, H, I, h⟩
theorem ps_continue : PS X (.Continue pos) tCont := fun _ _ σ H _ I h => wpAny_Continue ⟨σ, H, I, h⟩
/-- in a def's body nothing is shown -/
theorem Inv.quiet {pins : List (Addr × Obj)} {σ : St} {H : Hp} {s : Shared} (I : Inv X pins σ H s) : interactive X.env = false := by simp [interactive, I.ok.kind]
/-- a docstring -/
theorem ps_doc {x j pos pos'} : PS X (.Expr (.Constant (.str x) j pos) pos') tNext := fun _ s σ H _ I h => wpAny_Expr (Calls.Constant_str (show SP X _ _ .next { s with toks := s.toks + 1 } from ⟨σ, H, I.tok _, h⟩)) I.quiet
/-- an expression whose value is dropped -/
def tDrop (te : TE) : TS := fun D σ H => te σ H fun _ H1 => D.nx σ H1
theorem ps_expr (he : PE X e te) (hs : swapsWith e none pos.line X.env = pure false := by rfl) : PS X (.Expr e pos) (tDrop te) := by
  intro pins s σ H D I h
  exact wpAny_Expr_any (thn (he pins s σ H _ I h) fun v s1 ⟨x, H1, I1, r1, q1⟩ => ⟨σ, H1, I1, q1⟩) I.quiet hs
def tRet (te : TE) : TS := fun D σ H => te σ H D.rt
theorem ps_ret (he : PE X e te) : PS X (.Return (some e) pos) (tRet te) := by
  intro pins s σ H D I h
  exact wpAny_Return_some (thn (he pins s σ H _ I h) fun v s1 ⟨x, H1, I1, r1, q1⟩ => ⟨x, σ, H1, I1, r1, q1⟩)
def tRetN : TS := fun D _ H => D.rt .non H
theorem ps_retN : PS X (.Return none pos) tRetN := fun _ _ σ H _ I h => wpAny_Return_none ⟨.non, σ, H, I, rfl, h⟩
def tIfS (c : TT) (t u : TS) : TS := fun D σ H => c σ H fun b H1 => if b = true then t D σ H1 else u D σ H1
theorem ps_if {c : Expr} {a b : List Stmt} {tc : TT} (hc : PT X c tc) (ha : PSs X a t) (hb : PSs X b u) : PS X (.If c a b pos) (tIfS tc t u) := by
  intro pins s σ H D I h
  refine wpAny_If (thn (hc pins s σ H _ I h) fun d s1 ⟨H1, I1, q1⟩ => ?_)
  cases d with
  | true => exact ha pins s1 σ H1 D I1 q1
  | false => exact hb pins s1 σ H1 D I1 q1
/-- code that the proof never comes to -/
def tNever : TS := fun _ _ _ => False
theorem ps_never : PS X st tNever := fun _ _ _ _ _ _ h => h.elim
theorem pss_never {sts : List Stmt} : PSs X sts tNever := fun _ _ _ _ _ _ h => h.elim
end

/-! ### targets -/
abbrev TG := V → St → Hp → (St → Hp → Prop) → Prop
abbrev TGs := List V → St → Hp → (St → Hp → Prop) → Prop
def PG (X : Cx) (target : Expr) (t : TG) : Prop :=
  ∀ (pins : List (Addr × Obj)) (s : Shared) (σ : St) (H : Hp) (v : V) (u : Value) (Q : St → Hp → Prop), Inv X pins σ H s → RelV v u → t v σ H Q →
    wpAny (model X.prog X.w) X.A (assign target X.env u) (fun _ s' => ∃ σ' H', Inv X pins σ' H' s' ∧ Q σ' H') X.xe s
/-- several targets, one after another -/
def PGs (X : Cx) (ts : List Expr) (t : TGs) : Prop :=
  ∀ (pins : List (Addr × Obj)) (s : Shared) (σ : St) (H : Hp) (vs : List V) (us : List Value) (Q : St → Hp → Prop), Inv X pins σ H s → Vals vs us → t vs σ H Q →
    wpAny (model X.prog X.w) X.A (assignInOrder ((assignEach ts X.env).map (·.2)) us) (fun _ s' => ∃ σ' H', Inv X pins σ' H' s' ∧ Q σ' H') X.xe s
/-- o[i] = v, by values -/
abbrev TSet := V → V → V → Hp → (Hp → Prop) → Prop
def PSet (X : Cx) (t : TSet) : Prop :=
  ∀ (pins : List (Addr × Obj)) (s : Shared) (σ : St) (H : Hp) (o i v : V) (ov iv u : Value) (Q : Hp → Prop), Inv X pins σ H s → RelV o ov → RelV i iv → RelV v u → t o i v H Q →
    wpAny (model X.prog X.w) X.A (setItem ov iv u) (fun _ s' => ∃ H', Inv X pins σ H' s' ∧ Q H') X.xe s
/-- a op= b, by values -/
abbrev TIp := V → V → Hp → VK → Prop
def PIp (X : Cx) (op : Operator) (t : TIp) : Prop :=
  ∀ (pins : List (Addr × Obj)) (s : Shared) (σ : St) (H : Hp) (x y : V) (v u : Value) (Q : VK), Inv X pins σ H s → RelV x v → RelV y u → t x y H Q →
    wpAny (model X.prog X.w) X.A (inplaceOp op v u) (EP X pins σ Q) X.xe s
section
variable {X : Cx} {pos : Pos}
def gName (i : Nat) : TG := fun v σ H Q => Q (σ.set i (some v)) H
theorem pg_name {i : Nat} {x : Str} (hN : X.N.Nodup) (hi : X.N[i]? = some x) (hx : Loc X.env.scope x) (hf : X.fn x = true ∨ X.env.scope.names.lookup x = some .local := by first | exact .inl rfl | exact .inr rfl | assumption) : PG X (.Name x pos) (gName i) := by
  intro pins s σ H v u Q I r h
  exact wpAny_assign_Name (store_ok I hN hi hx r (fun s' I' => ⟨_, H, I', h⟩) hf)
def gNil : TGs := fun vs σ H Q => vs = [] ∧ Q σ H
def gCons (t : TG) (u : TGs) : TGs := fun vs σ H Q => ∃ v r, vs = v :: r ∧ t v σ H fun σ' H' => u r σ' H' Q
theorem pgs_nil : PGs X [] gNil := by
  intro pins s σ H vs us Q I r h
  obtain ⟨e, h⟩ := h
  subst e
  cases r
  exact assignInOrder_nil ⟨σ, H, I, h⟩
theorem pgs_cons {e : Expr} {es : List Expr} {t : TG} {u : TGs} (h1 : PG X e t) (h2 : PGs X es u)
    (hs : (assignEach (e :: es) X.env).map (·.2) = assign e X.env :: (assignEach es X.env).map (·.2) := by rfl) : PGs X (e :: es) (gCons t u) := by
  intro pins s σ H vs us Q I r h
  obtain ⟨v, vr, e1, h⟩ := h
  subst e1
  cases r with
  | cons r rr =>
    rw [hs]
    refine assignInOrder_cons (thn (h1 pins s σ H _ _ _ I r h) fun _ s1 ⟨σ1, H1, I1, q1⟩ => ?_)
    exact h2 pins s1 σ1 H1 _ _ Q I1 rr q1
/-- (a, b, ..) = a tuple of that length -/
def gTup (K : PySem.W.Frag) (n : Nat) (t : TGs) : TG := fun v σ H Q => ∃ a xs, v = .ref a ∧ SqT K H a xs ∧ xs.length = n ∧ t xs σ H Q
theorem pg_tup {es : List Expr} {k : Nat} {t : TGs} {n : Nat} (hc : X.calm = true) (h : PGs X es t)
    (hn : (assignEach es X.env).length = n := by rfl) (hst : (assignEach es X.env).findIdx? (·.1) = none := by rfl) : PG X (.Tuple es k pos) (gTup X.K n t) := by
  intro pins s σ H v u Q I r hw
  obtain ⟨a, xs, e1, hq, hl, hw⟩ := hw
  subst e1
  cases r
  obtain ⟨its, rv, ht, hz⟩ := I.tuple hq
  refine assign_Tuple_tuple (I.ok.hd hc) ht (by simp [hn, ← hl, rv.length]) hst fun h' hx => ?_
  have I1 : Inv X pins σ H { s with heap := h' } := I.kept (t' := s.toks) fun b o e => hx b o (Nat.ne_of_lt (Heap.lt_size e)) e
  exact h pins _ σ H xs _ Q I1 (by simpa using rv) hw
/-- o[i] = .. -/
def gSub (to ti : TE) (t : TSet) : TG := fun v σ H Q => to σ H fun o H1 => ti σ H1 fun i H2 => t o i v H2 fun H3 => Q σ H3
theorem pg_sub {o i : Expr} {to ti : TE} {t : TSet} (ho : PE X o to) (hi : PE X i ti) (hs : PSet X t)
    (ha : ∀ v, assign (.Subscript o i pos) X.env v = (do
      let ov ← holding [v] (eval o X.env)
      let iv ← holding [v, ov] (eval i X.env)
      standAt pos
      holding [v, ov, iv] (setItem ov iv v)
      release [v, ov, iv] []) := by intro _; rfl) : PG X (.Subscript o i pos) (gSub to ti t) := by
  intro pins s σ H v u Q I r h
  rw [ha]
  refine wpAny_bind (wpAny_holding (thn (ho pins s σ H _ I h) fun ov s1 ⟨x, H1, I1, r1, q1⟩ => ?_))
  refine wpAny_bind (wpAny_holding (thn (hi pins s1 σ H1 _ I1 q1) fun iv s2 ⟨y, H2, I2, r2, q2⟩ => ?_))
  refine wpAny_bind (wpAny_standAt (wpAny_bind (wpAny_holding (thn (hs pins s2 σ H2 x y v ov iv u _ I2 r1 r2 r q2) fun _ s3 ⟨H3, I3, q3⟩ => ?_))))
  exact wpAny_release ⟨σ, H3, I3, q3⟩
/-- target = value -/
def tAsg (te : TE) (g : TG) : TS := fun D σ H => te σ H fun x H1 => g x σ H1 D.nx
theorem ps_asg {tg e : Expr} {te : TE} {g : TG} (he : PE X e te) (hg : PG X tg g) (hs : swapsWithSole [tg] e pos.line X.env = pure false := by rfl) (hw : swappedStores [tg] e X.env = pure none := by rfl)
    (h1 : (assignEach [tg] X.env).map (·.2) = [assign tg X.env] := by rfl) : PS X (.Assign [tg] e pos) (tAsg te g) := by
  intro pins s σ H D I h
  refine wpAny_Assign_stores (thn (he pins s σ H _ I h) fun v s1 ⟨x, H1, I1, r1, q1⟩ => ?_) hs hw
  rw [h1]
  exact thn (hg pins s1 σ H1 x v _ I1 r1 q1) fun _ s2 q => q
/-- name = value -/
theorem ps_set {i : Nat} {x : Str} {e : Expr} {te : TE} {pos' : Pos} (hN : X.N.Nodup) (hi : X.N[i]? = some x) (hx : Loc X.env.scope x) (he : PE X e te) (hs : swapsWith e (some (.Name x pos')) pos.line X.env = pure false := by rfl) (hf : X.fn x = true ∨ X.env.scope.names.lookup x = some .local := by first | exact .inl rfl | exact .inr rfl | assumption) :
    PS X (.Assign [.Name x pos'] e pos) (tAsg te (gName i)) := by
  intro pins s σ H D I h
  refine wpAny_Assign_Name (thn (he pins s σ H _ I h) fun v s1 ⟨y, H1, I1, r1, q1⟩ => ?_) hs
  exact store_ok I1 hN hi hx r1 (fun s2 I2 => ⟨_, H1, I2, q1⟩) hf
/-- a, b = x, y with plain local names: stored from the right; the pair itself is not tracked (the opening rows as in PyProof/Rows/TupAssign.lean:23) -/
def tPar (i j : Nat) (ta : TA) : TS := fun D σ H => ta σ H fun vs H1 => ∃ v w, vs = [v, w] ∧ D.nx ((σ.set i (some v)).set j (some w)) H1
theorem ps_par {i j : Nat} {x y : Str} {a b : Expr} {ta : TA} {px py pt : Pos} {kt k2 pt2} (hc : X.calm = true) (hN : X.N.Nodup) (hi : X.N[i]? = some x) (hj : X.N[j]? = some y) (hij : i ≠ j)
    (hx : X.env.scope.names.lookup x = some .local) (hy : X.env.scope.names.lookup y = some .local) (ha : PA X [a, b] ta)
    (hw : swappedStores [.Tuple [.Name x px, .Name y py] kt pt] (.Tuple [a, b] k2 pt2) X.env = pure (some [x, y]))
    (hs : swapsWithSole [.Tuple [.Name x px, .Name y py] kt pt] (.Tuple [a, b] k2 pt2) pos.line X.env = pure false := by rfl) :
    PS X (.Assign [.Tuple [.Name x px, .Name y py] kt pt] (.Tuple [a, b] k2 pt2) pos) (tPar i j ta) := by
  intro pins s σ H D I h
  rw [exec_Assign_arm]
  refine wpAny_bind (wpAny_standAt ?_)
  rw [hs]
  refine wpAny_bind (wpAny_pure ?_)
  rw [if_neg (by decide)]
  refine wpAny_bind (Tuple_ (thn (ha _ pins s σ H _ I h) fun us s1 ⟨vs, H1, I1, r1, q1⟩ => ?_))
  obtain ⟨v, w, e1, q1⟩ := q1
  subst e1
  obtain ⟨u1, u2, rfl, rv, rw'⟩ : ∃ u1 u2, us = [u1, u2] ∧ RelV v u1 ∧ RelV w u2 := by
    cases r1 with
    | cons p q =>
      cases q with
      | cons p' q' =>
        cases q'
        exact ⟨_, _, rfl, p, p'⟩
  refine wpAny_newObj_type ?_ (by show 2 ≤ sizeLine; decide)
  have I2 : Inv X pins σ H1 { s1 with heap := s1.heap.push { cls := .type "tuple", data := .seq [u1, u2].toArray } } := I1.kept (t' := s1.toks) fun b o e => Heap.get?_push_of_some _ e
  rw [hw]
  refine wpAny_bind (wpAny_pure ?_)
  show wpAny (model X.prog X.w) X.A (do rule "assign.swapped-stores"; let items ← unpackItems (.ref s1.heap.objs.size) 2 none; assignInOrder [fun v => bindName X.env y v, fun v => bindName X.env x v] items.reverse; pure Flow.next) _ _ _
  refine wpAny_bind (wpAny_rule (wpAny_bind (unpackItems_tuple (items := #[u1, u2]) (I.ok.hd hc) (IsTup.new s1.heap _) fun h' hx' => ?_)))
  have I3 := I2.kept (h' := h') (t' := s1.toks) fun b o e => hx' b o (Nat.ne_of_lt (Heap.lt_size e)) e
  show wpAny _ _ (assignInOrder [fun v => bindName X.env y v, fun v => bindName X.env x v] [u2, u1] >>= fun _ => pure Flow.next) _ _ _
  refine wpAny_bind (assignInOrder_cons (wpAny_bindName (store_ok I3 hN hj (.inl hy) rw' (fun s2 I4 => ?_) (.inr hy))))
  refine assignInOrder_cons (wpAny_bindName (store_ok I4 hN hi (.inl hx) rv (fun s3 I5 => assignInOrder_nil (wpAny_pure ?_)) (.inr hx)))
  rw [List.set_comm _ _ (Ne.symm hij)] at I5
  exact ⟨_, H1, I5, q1⟩
/-- name op= e -/
def tAug (i : Nat) (te : TE) (ti : TIp) : TS := fun D σ H => ∃ x, σ[i]? = some (some x) ∧ te σ H fun y H1 => ti x y H1 fun z H2 => D.nx (σ.set i (some z)) H2
theorem ps_aug {i : Nat} {x : Str} {e : Expr} {te : TE} {op : Operator} {ti : TIp} {pos' : Pos} (hN : X.N.Nodup) (hi : X.N[i]? = some x) (hx : Loc X.env.scope x) (he : PE X e te) (ho : PIp X op ti) (hf : X.fn x = true ∨ X.env.scope.names.lookup x = some .local := by first | exact .inl rfl | exact .inr rfl | assumption) :
    PS X (.AugAssign (.Name x pos') op e pos) (tAug i te ti) := by
  intro pins s σ H D I h
  obtain ⟨v, e1, h⟩ := h
  obtain ⟨m, hn, hl⟩ := I.loc
  have vis : Vis X.env.scope x := by rcases hx with k | k; exact .inl k; exact .inr (.inl k)
  obtain ⟨u, r, l⟩ := hl i x v hi e1 vis
  refine wpAny_AugAssign_Name ?_
  have go : wpAny (model X.prog X.w) X.A (eval e X.env) (fun w s₂ => wpAny (model X.prog X.w) X.A (inplaceOp op u w) (fun r s₃ => wpAny (model X.prog X.w) X.A (storeName X.env x r) (fun _ => SP X pins D .next) X.xe s₃) X.xe s₂) X.xe s := by
    refine thn (he pins s σ H _ I h) fun w s1 ⟨y, H1, I1, r1, q1⟩ => ?_
    refine thn (ho pins s1 σ H1 v y u w _ I1 r r1 q1) fun z s2 ⟨zv, H2, I2, r2, q2⟩ => ?_
    exact store_ok I2 hN hi hx r2 (fun s3 I3 => ⟨_, H2, I3, q2⟩) hf
  rcases l with ⟨hk, hm⟩ | ⟨hk, c, hc, hcell⟩
  · exact wpAny_loadName_local I.ok.kind hk hn hm go
  · rcases hk with hk | hk
    · exact wpAny_loadName_cell I.ok.kind hk hc hcell go
    · rcases hx with k | k
      · have : X.env.scope.names.lookup x = some .free := hk
        rw [k] at this; cases this
      · have : X.env.scope.names.lookup x = some .free := hk
        rw [k] at this; cases this
/-- o[i] op= e -/
def tAugS (to ti te : TE) (tget : V → V → Hp → VK → Prop) (tip : TIp) (tset : TSet) : TS := fun D σ H => to σ H fun o H1 => ti σ H1 fun i H2 => tget o i H2 fun x H3 => te σ H3 fun y H4 => tip x y H4 fun z H5 => tset o i z H5 fun H6 => D.nx σ H6
/-- o[i], by values -/
def PGet (X : Cx) (t : V → V → Hp → VK → Prop) : Prop :=
  ∀ (pins : List (Addr × Obj)) (s : Shared) (σ : St) (H : Hp) (o i : V) (ov iv : Value) (Q : VK), Inv X pins σ H s → RelV o ov → RelV i iv → t o i H Q →
    wpAny (model X.prog X.w) X.A (getItem ov iv) (EP X pins σ Q) X.xe s
theorem ps_augS {o i e : Expr} {to ti te : TE} {tget : V → V → Hp → VK → Prop} {tip : TIp} {tset : TSet} {op : Operator} {tpos : Pos} (ho : PE X o to) (hi : PE X i ti) (hg : PGet X tget) (he : PE X e te) (hp : PIp X op tip) (hs : PSet X tset)
    (ha : ∀ ov iv new, augStore i ov iv new = (do holding [new, ov, iv] (setItem ov iv new); release [new, ov, iv] []; pure .next) := by intros; rfl) : PS X (.AugAssign (.Subscript o i tpos) op e pos) (tAugS to ti te tget tip tset) := by
  intro pins s σ H D I h
  refine wpAny_AugAssign_SubscriptAny (thn (ho pins s σ H _ I h) fun ov s1 ⟨x1, H1, I1, r1, q1⟩ => ?_) ha
  refine thn (hi pins s1 σ H1 _ I1 q1) fun iv s2 ⟨x2, H2, I2, r2, q2⟩ => ?_
  refine thn (hg pins s2 σ H2 x1 x2 ov iv _ I2 r1 r2 q2) fun old s3 ⟨x3, H3, I3, r3, q3⟩ => ?_
  refine thn (he pins s3 σ H3 _ I3 q3) fun v s4 ⟨x4, H4, I4, r4, q4⟩ => ?_
  refine thn (hp pins s4 σ H4 x3 x4 old v _ I4 r3 r4 q4) fun new s5 ⟨x5, H5, I5, r5, q5⟩ => ?_
  exact thn (hs pins s5 σ H5 x1 x2 x5 ov iv new _ I5 r1 r2 r5 q5) fun _ s6 ⟨H6, I6, q6⟩ => ⟨σ, H6, I6, q6⟩
/-- ints -/
def ipI (f : Int → Int → Int) : TIp := fun x y H Q => ∃ i j, x = .int i ∧ y = .int j ∧ Q (.int (f i j)) H
theorem ip_add : PIp X .Add (ipI fun i j => i + j) := by
  intro pins s σ H x y v u Q I r1 r2 h
  obtain ⟨i, j, e1, e2, q⟩ := h
  subst e1; subst e2
  obtain ⟨t, rfl⟩ := r1
  obtain ⟨t', rfl⟩ := r2
  exact iadd_int ⟨.int _, H, I.tok _, ⟨_, rfl⟩, q⟩
theorem ip_sub : PIp X .Sub (ipI fun i j => i - j) := by
  intro pins s σ H x y v u Q I r1 r2 h
  obtain ⟨i, j, e1, e2, q⟩ := h
  subst e1; subst e2
  obtain ⟨t, rfl⟩ := r1
  obtain ⟨t', rfl⟩ := r2
  exact isub_int ⟨.int _, H, I.tok _, ⟨_, rfl⟩, q⟩
end

/-! ### while -/
section
variable {X : Cx} {pos : Pos}
/-- the invariant W with its measure -/
def tWhile (c : TT) (tb : TS) : TS := fun D σ H => ∃ W : Nat → St → Hp → Prop, (∃ m, W m σ H) ∧ ∀ m σ H, W m σ H →
  c σ H fun b H1 => if b = true then ∃ N : St → Hp → Prop, (∀ σ' H', N σ' H' → ∃ m', m' < m ∧ W m' σ' H') ∧ tb { D with nx := N, ct := N, bk := D.nx } σ H1 else D.nx σ H1
theorem ps_while {c : Expr} {body : List Stmt} {tc : TT} {tb : TS} (hp : PassesOwn (model X.prog X.w) X.A X.env X.xe) (hc : PT X c tc) (hb : PSs X body tb) : PS X (.While c body [] pos) (tWhile tc tb) := by
  intro pins s σ H D I h
  obtain ⟨W, ⟨m0, w0⟩, turn⟩ := h
  refine wpAny_While (codeAny_whileLoop (fun n s' => ∃ σ' H', Inv X pins σ' H' s' ∧ W n σ' H') ?_ m0 ⟨σ, H, I, w0⟩)
  rintro n s1 ⟨σ1, H1, I1, w1⟩
  refine wpAny_passesOwn hp (thn (hc pins s1 σ1 H1 _ I1 (turn n σ1 H1 w1)) fun b s2 ⟨H2, I2, q2⟩ => ?_)
  cases b with
  | true =>
    obtain ⟨N, hN, q2⟩ := q2
    rw [if_pos rfl]
    refine wpAny_passesOwn hp (thn (hb pins s2 σ1 H2 _ I2 q2) fun f s3 q3 => ?_)
    cases f with
    | next =>
      obtain ⟨σ3, H3, I3, n3⟩ := q3
      obtain ⟨m', hm, w3⟩ := hN σ3 H3 n3
      exact ⟨m', hm, σ3, H3, I3, w3⟩
    | cont =>
      obtain ⟨σ3, H3, I3, n3⟩ := q3
      obtain ⟨m', hm, w3⟩ := hN σ3 H3 n3
      exact ⟨m', hm, σ3, H3, I3, w3⟩
    | brk => exact q3
    | ret v => exact q3
  | false =>
    rw [if_neg Bool.false_ne_true]
    exact wpAny_execs_nil ⟨σ1, H2, I2, q2⟩
end

/-! ### what a loop or a comprehension walks -/
/-- at turn i: it yields x (the heap may grow), or it stops -/
structure It where
  go : Nat → Hp → Prop
  yld : Nat → Hp → V → Hp → Prop
  stop : Nat → Hp → Prop
/-- the iterator's own objects may turn: they are not the frame's, not pinned, younger than the entry (or a comprehension's own) -/
def FpOk (X : Cx) (pins : List (Addr × Obj)) (H : Hp) (b : Addr) : Prop :=
  H b = none ∧ b ≠ X.env.locals ∧ b ∉ X.fs ∧ (b ∈ X.ex ∨ X.s₀.heap.objs.size ≤ b) ∧ (∀ x c, X.env.cells.lookup x = some c → c ≠ b) ∧ ∀ p ∈ X.pn ++ pins, p.1 ≠ b
theorem Inv.fpOk {X : Cx} {pins : List (Addr × Obj)} {σ : St} {H H' : Hp} {s : Shared} {b : Addr} (I : Inv X pins σ H s) (hb : s.heap.objs.size ≤ b) (hn : H' b = none) : FpOk X pins H' b := by
  refine ⟨hn, Nat.ne_of_gt (Nat.lt_of_lt_of_le I.lt hb), I.nofs hb, .inr (Nat.le_trans I.sz hb), fun x c e z => ?_, fun p hp z => ?_⟩
  · obtain ⟨v, q⟩ := I.cell x c e
    exact absurd (Nat.lt_of_lt_of_le q.lt (by rw [z]; exact hb)) (Nat.lt_irrefl _)
  · exact absurd (Nat.lt_of_lt_of_le (Heap.lt_size (I.pin p hp).1) (by rw [z]; exact hb)) (Nat.lt_irrefl _)
structure Turn (P : Program) (w : World) (K : PySem.W.Frag) (tg : Expr) (J : It) (fp : List Addr) (it : Addr) (tn : Nat → Heap → Prop) : Prop where
  mem : it ∈ fp
  obj : ∀ i h, tn i h → ∀ b ∈ fp, ∃ o, h.get? b = some o ∧ ∀ v, o.data ≠ .cell v
  keep : ∀ i h h', tn i h → (∀ b ∈ fp, ∀ o, h.get? b = some o → h'.get? b = some o) → tn i h'
  item : ∀ (X : Cx), X.prog = P → X.w = w → X.K = K → X.calm = true → ∀ (i : Nat) (pins : List (Addr × Obj)) (s : Shared) (σ : St) (H : Hp) (E : Value → Shared → Prop), Inv X pins σ H s → (∀ b ∈ fp, FpOk X pins H b) → tn i s.heap → J.go i H →
    wpAny (model P w) X.A (pyNext (.ref it)) (fun r s1 => ∃ u, r = some u ∧
      wpAny (model P w) X.A (letOwnedTupleGo tg (.ref it) u) (fun _ s2 => ∃ x H', Inv X pins σ H' s2 ∧ RelV x u ∧ J.yld i H x H' ∧ tn (i + 1) s2.heap ∧ ∀ b ∈ fp, H' b = none) E s1) E s
  done : ∀ (X : Cx), X.prog = P → X.w = w → X.K = K → X.calm = true → ∀ (i : Nat) (pins : List (Addr × Obj)) (s : Shared) (σ : St) (H : Hp) (E : Value → Shared → Prop), Inv X pins σ H s → (∀ b ∈ fp, FpOk X pins H b) → tn i s.heap → J.stop i H →
    wpAny (model P w) X.A (pyNext (.ref it)) (fun r s1 => r = none ∧ Inv X pins σ H s1) E s
  self : ∀ (A : Around) (i : Nat) (s : Shared) (Q : Value → Shared → Prop) (E : Value → Shared → Prop), tn i s.heap → Q (.ref it) s → wpAny (model P w) A (pyIter (.ref it)) Q E s
abbrev TI := St → Hp → (It → Hp → Prop) → Prop
/-- an iterator has come -/
def PIE (X : Cx) (pins : List (Addr × Obj)) (σ : St) (tg : Expr) (R : It → Hp → Prop) (itv : Value) (s2 : Shared) : Prop :=
  ∃ (it : Addr) (fp : List Addr) (tn : Nat → Heap → Prop) (J : It) (H' : Hp), itv = .ref it ∧ Inv X pins σ H' s2 ∧ Turn X.prog X.w X.K tg J fp it tn ∧ tn 0 s2.heap ∧ (∀ b ∈ fp, FpOk X pins H' b) ∧ R J H'
def PI (X : Cx) (tg iter : Expr) (wi : TI) : Prop :=
  ∀ (pins : List (Addr × Obj)) (s : Shared) (σ : St) (H : Hp) (R : It → Hp → Prop), Inv X pins σ H s → wi σ H R →
    wpAny (model X.prog X.w) X.A (eval iter X.env) (fun v s1 => wpAny (model X.prog X.w) X.A (pyIter v) (PIE X pins σ tg R) X.xe s1) X.xe s

/-- the step ahead of the store is nothing for an iterator that keeps no tuple -/
theorem go_of {M : Model} {A : Around} {E : Value → Shared → Prop} {s : Shared} {tg : Expr} {it : Addr} {u : Value} {o : Obj} {n : String} {vs : Array Value} {Q : Unit → Shared → Prop} (ho : s.heap.get? it = some o) (hc : o.cls = .type n) (hd : o.data = .fields vs)
    (hn : ["enumerate", "zip", "dict_itemiterator", "dict_reverseitemiterator", "odict_iterator", "itertools.zip_longest", "itertools.pairwise"].contains n = false) (hQ : Q () s) : wpAny M A (letOwnedTupleGo tg (.ref it) u) Q E s := by
  unfold letOwnedTupleGo
  cases tg <;> first
    | exact wpAny_pure hQ
    | (cases u <;> first
        | exact wpAny_pure hQ
        | (refine wpAny_bind (wpAny_load ho ?_)
           rw [hc, hd]
           show wpAny M A (if (["enumerate", "zip", "dict_itemiterator", "dict_reverseitemiterator", "odict_iterator", "itertools.zip_longest", "itertools.pairwise"].contains n && vs[0]? == some (rawInt _)) = true then _ else _) Q E s
           rw [if_neg (by intro h; rw [hn, Bool.false_and] at h; cases h)]
           exact wpAny_pure hQ))

/-- the list at a, as it stands at each turn (a loop may append to it) -/
def Itl (K : PySem.W.Frag) (a : Addr) : It :=
  ⟨fun i H => ∃ xs x, SqL K H a xs ∧ xs[i]? = some x, fun i H x H' => H' = H ∧ ∀ xs, SqL K H a xs → xs[i]? = some x, fun i H => ∃ xs, SqL K H a xs ∧ xs.length ≤ i⟩
def Itt (K : PySem.W.Frag) (a : Addr) : It :=
  ⟨fun i H => ∃ xs x, SqT K H a xs ∧ xs[i]? = some x, fun i H x H' => H' = H ∧ ∀ xs, SqT K H a xs → xs[i]? = some x, fun i H => ∃ xs, SqT K H a xs ∧ xs.length ≤ i⟩
/-- lo, lo + 1, .. (n of them) -/
def Itr (lo : Int) (n : Nat) : It := ⟨fun i _ => i < n, fun i H x H' => H' = H ∧ x = .int (lo + i), fun i _ => n ≤ i⟩
theorem turn_list {P : Program} {w : World} {K : PySem.W.Frag} {tg : Expr} (a it : Addr) : Turn P w K tg (Itl K a) [it] it (fun i h => h.IsListIter it a i) where
  mem := by simp
  obj := fun i h st b hb => by
    have e : b = it := by simpa using hb
    subst e
    obtain ⟨o, e, c, d⟩ := st
    exact ⟨o, e, fun v z => by rw [d] at z; cases z⟩
  keep := fun i h h' st k => st.at fun o e => k it (by simp) o e
  item := by
    intro X hP hw hK hc i pins s σ H E I hf st hg
    subst hP hw hK
    obtain ⟨xs, x, hq, hx⟩ := hg
    obtain ⟨its, rv, p, hz⟩ := I.list hq
    obtain ⟨u, hu, ru⟩ := rv.get hx
    obtain ⟨f0, f1, f2, f3, f4, f5⟩ := hf it (by simp)
    refine wpAny_pyNext_list_item st p.isList (x := u) (by simpa using hu) fun h' st' sb => ?_
    have I1 : Inv X pins σ H { s with heap := h' } := I.turned (t' := s.toks) (fun b o hb e => (sb.2 b hb).trans e) f0 f1 f3 f4 f5
    obtain ⟨o, e, c, d⟩ := id st'
    exact ⟨u, rfl, go_of (s := { s with heap := h' }) e c d (by decide) ⟨x, H, I1, ru, ⟨rfl, fun ys hy => by rw [I.list_inj hy hq]; exact hx⟩, st', fun b hb => (hf b hb).1⟩⟩
  done := by
    intro X hP hw hK hc i pins s σ H E I hf st hg
    subst hP hw hK
    obtain ⟨xs, hq, hx⟩ := hg
    obtain ⟨its, rv, p, hz⟩ := I.list hq
    obtain ⟨f0, f1, f2, f3, f4, f5⟩ := hf it (by simp)
    have hl := rv.length
    exact wpAny_pyNext_list_end (I.ok.hd hc) st p.isList (by simp; omega) fun h' eb => ⟨rfl, I.turned (t' := s.toks) (fun b o hb e => eb b o hb e) f0 f1 f3 f4 f5⟩
  self := fun _ _ _ _ _ st h => wpAny_pyIter_listiter st h
theorem turn_tuple {P : Program} {w : World} {K : PySem.W.Frag} {tg : Expr} (a it : Addr) : Turn P w K tg (Itt K a) [it] it (fun i h => h.IsTupleIter it a i) where
  mem := by simp
  obj := fun i h st b hb => by
    have e : b = it := by simpa using hb
    subst e
    obtain ⟨o, e, c, d⟩ := st
    exact ⟨o, e, fun v z => by rw [d] at z; cases z⟩
  keep := fun i h h' st k => st.at fun o e => k it (by simp) o e
  item := by
    intro X hP hw hK hc i pins s σ H E I hf st hg
    subst hP hw hK
    obtain ⟨xs, x, hq, hx⟩ := hg
    obtain ⟨its, rv, p, hz⟩ := I.tuple hq
    obtain ⟨u, hu, ru⟩ := rv.get hx
    obtain ⟨f0, f1, f2, f3, f4, f5⟩ := hf it (by simp)
    refine wpAny_pyNext_tuple_item st (show s.heap.IsTuple a its.toArray from p) (x := u) (by simpa using hu) fun h' st' sb => ?_
    have I1 : Inv X pins σ H { s with heap := h' } := I.turned (t' := s.toks) (fun b o hb e => (sb.2 b hb).trans e) f0 f1 f3 f4 f5
    obtain ⟨o, e, c, d⟩ := id st'
    exact ⟨u, rfl, go_of (s := { s with heap := h' }) e c d (by decide) ⟨x, H, I1, ru, ⟨rfl, fun ys hy => by rw [I.tuple_inj hy hq]; exact hx⟩, st', fun b hb => (hf b hb).1⟩⟩
  done := by
    intro X hP hw hK hc i pins s σ H E I hf st hg
    subst hP hw hK
    obtain ⟨xs, hq, hx⟩ := hg
    obtain ⟨its, rv, p, hz⟩ := I.tuple hq
    obtain ⟨f0, f1, f2, f3, f4, f5⟩ := hf it (by simp)
    have hl := rv.length
    exact wpAny_pyNext_tuple_end (I.ok.hd hc) st (show s.heap.IsTuple a its.toArray from p) (by simp; omega) fun h' eb => ⟨rfl, I.turned (t' := s.toks) (fun b o hb e => eb b o hb e) f0 f1 f3 f4 f5⟩
  self := fun _ _ _ _ _ st h => wpAny_pyIter_tupleiter st h
theorem turn_range {P : Program} {w : World} {K : PySem.W.Frag} {tg : Expr} (it : Addr) (lo : Int) (n : Nat) : Turn P w K tg (Itr lo n) [it] it (fun i h => IsRangeIter h it (lo + (i : Nat) * 1) ((n : Int) - (i : Nat)) 1) where
  mem := by simp
  obj := fun i h st b hb => by
    have e : b = it := by simpa using hb
    subst e
    exact ⟨_, st, fun v z => by
      have z' : Data.fields _ = Data.cell v := z
      cases z'⟩
  keep := fun i h h' st k => k it (by simp) _ st
  item := by
    intro X hP hw hK hc i pins s σ H E I hf st hg
    subst hP hw hK
    obtain ⟨f0, f1, f2, f3, f4, f5⟩ := hf it (by simp)
    have W := Walks.range (prog := X.prog) (w := X.w) (I.ok.hd hc) it lo 1 n
    refine W.item i s _ _ hg st fun v h' tk hv st' kk => ?_
    obtain ⟨t, rfl⟩ := hv
    have I1 : Inv X pins σ H { s with heap := h', toks := tk } := I.turned (fun b o hb e => kk b o (by simpa using hb) e) f0 f1 f3 f4 f5
    refine ⟨_, rfl, go_of (s := { s with heap := h', toks := tk }) (n := "range_iterator") st' rfl rfl (by decide) ⟨.int (lo + i), H, I1, ⟨t, ?_⟩, ⟨rfl, rfl⟩, st', fun b hb => (hf b hb).1⟩⟩
    rw [Int.mul_one]
  done := by
    intro X hP hw hK hc i pins s σ H E I hf st hg
    subst hP hw hK
    obtain ⟨f0, f1, f2, f3, f4, f5⟩ := hf it (by simp)
    exact wpAny_pyNext_range_end (I.ok.hd hc) st (by have : n ≤ i := hg; omega) fun h' eb => ⟨rfl, I.turned (t' := s.toks) (fun b o hb e => eb b o hb e) f0 f1 f3 f4 f5⟩
  self := fun _ _ _ _ _ st h => wpAny_pyIter_rangeiter st h
end L2

namespace L2
open PySem PySem.Spec PyProof.Rows
section
variable {X : Cx} {tg : Expr}
def iList (K : PySem.W.Frag) (tl : TE) : TI := fun σ H R => tl σ H fun x H1 => ∃ a, x = .ref a ∧ (∃ xs, SqL K H1 a xs) ∧ R (Itl K a) H1
def iTup (K : PySem.W.Frag) (tl : TE) : TI := fun σ H R => tl σ H fun x H1 => ∃ a, x = .ref a ∧ (∃ xs, SqT K H1 a xs) ∧ R (Itt K a) H1
theorem pi_list {l : Expr} {tl : TE} (hl : PE X l tl) : PI X tg l (iList X.K tl) := by
  intro pins s σ H R I h
  refine thn (hl pins s σ H _ I h) fun v s1 ⟨x, H1, I1, r1, q1⟩ => ?_
  obtain ⟨a, e, ⟨xs, hq⟩, q⟩ := q1
  subst e
  cases r1
  obtain ⟨its, rv, p, hz⟩ := I1.list hq
  refine wpAny_pyIter_list p.isList ?_
  refine ⟨s1.heap.objs.size, [s1.heap.objs.size], _, _, H1, rfl, I1.kept (t' := s1.toks) fun b o e => Heap.get?_push_of_some _ e, turn_list a _, ⟨_, Heap.get?_push_size _ rfl, rfl, rfl⟩, fun b hb => ?_, q⟩
  have e : b = s1.heap.objs.size := by simpa using hb
  subst e
  exact I1.fpOk (Nat.le_refl _) (I1.hok.fresh (Nat.le_refl _))
theorem pi_tup {l : Expr} {tl : TE} (hl : PE X l tl) : PI X tg l (iTup X.K tl) := by
  intro pins s σ H R I h
  refine thn (hl pins s σ H _ I h) fun v s1 ⟨x, H1, I1, r1, q1⟩ => ?_
  obtain ⟨a, e, ⟨xs, hq⟩, q⟩ := q1
  subst e
  cases r1
  obtain ⟨its, rv, p, hz⟩ := I1.tuple hq
  refine wpAny_pyIter_tuple (show s1.heap.IsTuple a its.toArray from p) ?_
  refine ⟨s1.heap.objs.size, [s1.heap.objs.size], _, _, H1, rfl, I1.kept (t' := s1.toks) fun b o e => Heap.get?_push_of_some _ e, turn_tuple a _, ⟨_, Heap.get?_push_size _ rfl, rfl, rfl⟩, fun b hb => ?_, q⟩
  have e : b = s1.heap.objs.size := by simpa using hb
  subst e
  exact I1.fpOk (Nat.le_refl _) (I1.hok.fresh (Nat.le_refl _))
/-- a range object just made, walked -/
theorem range_it {pins : List (Addr × Obj)} {σ : St} {H : Hp} {s : Shared} {R : It → Hp → Prop} {E : Value → Shared → Prop} {lo hi : Int} {t u v : Tok} {tk : Nat} (I : Inv X pins σ H s) (h1 : -(2 ^ 62) ≤ lo) (h2 : lo < 2 ^ 62) (h3 : -(2 ^ 62) ≤ hi) (h4 : hi < 2 ^ 62)
    (q : R (Itr lo (hi - lo).toNat) H) : wpAny (model X.prog X.w) X.A (pyIter (.ref s.heap.objs.size)) (PIE X pins σ tg R) E { s with heap := s.heap.push { cls := .type "range", data := .fields #[.int lo t, .int hi u, .int 1 v] }, toks := tk } := by
  refine wpAny_pyIter_range (IsRange.new ..) (small_one h1 h2 h3 h4) ?_
  have I1 : Inv X pins σ H { s with heap := s.heap.push { cls := .type "range", data := .fields #[.int lo t, .int hi u, .int 1 v] }, toks := tk } := I.kept fun b o e => Heap.get?_push_of_some _ e
  refine ⟨(s.heap.push { cls := .type "range", data := .fields #[.int lo t, .int hi u, .int 1 v] }).objs.size, [(s.heap.push { cls := .type "range", data := .fields #[.int lo t, .int hi u, .int 1 v] }).objs.size], _, _, H, rfl,
    I1.kept (t' := tk) fun b o e => Heap.get?_push_of_some _ e, turn_range _ lo (hi - lo).toNat, ?_, fun b hb => ?_, q⟩
  · have e1 : lo + ((0 : Nat) : Int) * 1 = lo := by simp
    have e2 : (((hi - lo).toNat : Nat) : Int) - ((0 : Nat) : Int) = Builtin.Range.rangeSize lo hi 1 := by rw [rangeSize_one]; split <;> omega
    show IsRangeIter _ _ (lo + ((0 : Nat) : Int) * 1) ((((hi - lo).toNat : Nat) : Int) - ((0 : Nat) : Int)) 1
    rw [e1, e2]
    exact Heap.get?_push_size _ rfl
  · have e : b = (s.heap.push { cls := .type "range", data := .fields #[.int lo t, .int hi u, .int 1 v] }).objs.size := by simpa using hb
    subst e
    exact I1.fpOk (Nat.le_refl _) (I1.hok.fresh (Nat.le_refl _))
def iRng1 (ta : TA) : TI := fun σ H R => ta σ H fun vs H1 => ∃ j : Int, vs = [.int j] ∧ -(2 ^ 62) ≤ j ∧ j < 2 ^ 62 ∧ R (Itr 0 j.toNat) H1
def iRng2 (ta : TA) : TI := fun σ H R => ta σ H fun vs H1 => ∃ i j : Int, vs = [.int i, .int j] ∧ (-(2 ^ 62) ≤ i ∧ i < 2 ^ 62 ∧ -(2 ^ 62) ≤ j ∧ j < 2 ^ 62) ∧ R (Itr i (j - i).toNat) H1
theorem pi_range1 {a : Expr} {ta : TA} {p pos : Pos} (hg : Gl X "range") (hm : X.mg "range" = none) (ha : PA X [a] ta) (hs : starEach [a] X.env = [(false, eval a X.env)] := by rfl) : PI X tg (.Call (.Name "range" p) [a] [] pos) (iRng1 ta) := by
  intro pins s σ H R I h
  refine Call_ (ld_blt I hg hm boot_range (PyProof.Rows.callWith_type1 (thn (ha pos pins s σ H _ I h) fun us s1 ⟨vs, H1, I1, r1, q1⟩ => ?_) hs rfl))
  obtain ⟨j, e, q1, q2, q⟩ := q1
  subst e
  cases r1 with
  | cons r rr =>
    cases rr
    obtain ⟨t, rfl⟩ := r
    exact call_range_1 (range_it I1 (by omega) (by omega) q1 q2 (by simpa using q))
theorem pi_range2 {a b : Expr} {ta : TA} {p pos : Pos} (hg : Gl X "range") (hm : X.mg "range" = none) (ha : PA X [a, b] ta) (hs : starEach [a, b] X.env = [(false, eval a X.env), (false, eval b X.env)] := by rfl) (hs2 : starEach [b] X.env = [(false, eval b X.env)] := by rfl) :
    PI X tg (.Call (.Name "range" p) [a, b] [] pos) (iRng2 ta) := by
  intro pins s σ H R I h
  refine Call_ (ld_blt I hg hm boot_range (PyProof.Rows.callWith_type1 (thn (ha pos pins s σ H _ I h) fun us s1 ⟨vs, H1, I1, r1, q1⟩ => ?_) (by rw [hs, hs2]) (by rw [hs2]; rfl)))
  obtain ⟨i, j, e, ⟨q1, q2, q3, q4⟩, q⟩ := q1
  subst e
  cases r1 with
  | cons r rr =>
    cases rr with
    | cons r' rr =>
      cases rr
      obtain ⟨t, rfl⟩ := r
      obtain ⟨t', rfl⟩ := r'
      exact call_range_2 (range_it I1 q1 q2 q3 q4 q)

/-! ### for -/
/-- W: the invariant by the turn and a measure; N: what the body is to reach -/
def tFor (wi : TI) (g : TG) (tb : TS) : TS := fun D σ H => wi σ H fun J H1 => ∃ W : Nat → Nat → St → Hp → Prop, (∃ m, W 0 m σ H1) ∧ ∀ i m σ H, W i m σ H →
  (J.stop i H ∧ D.nx σ H) ∨ (J.go i H ∧ ∃ N : St → Hp → Prop, (∀ σ' H', N σ' H' → ∃ m', m' < m ∧ W (i + 1) m' σ' H') ∧ ∀ x H', J.yld i H x H' → g x σ H' fun σ2 H2 => tb { D with nx := N, ct := N, bk := D.nx } σ2 H2)
/-- the records at fp as they stand -/
def pinsAt (fp : List Addr) (h : Heap) : List (Addr × Obj) := fp.filterMap fun b => (h.get? b).map fun o => (b, o)
theorem mem_pinsAt {fp : List Addr} {h : Heap} {b : Addr} {o : Obj} (hb : b ∈ fp) (e : h.get? b = some o) : (b, o) ∈ pinsAt fp h := List.mem_filterMap.mpr ⟨b, hb, by rw [e]; rfl⟩
theorem of_pinsAt {fp : List Addr} {h : Heap} {p : Addr × Obj} (hp : p ∈ pinsAt fp h) : p.1 ∈ fp ∧ h.get? p.1 = some p.2 := by
  obtain ⟨b, hb, e⟩ := List.mem_filterMap.mp hp
  cases q : h.get? b with
  | none => rw [q] at e; cases e
  | some o =>
    rw [q] at e
    have e' : (b, o) = p := Option.some.inj e
    subst e'
    exact ⟨hb, q⟩
theorem Inv.pinned {pins : List (Addr × Obj)} {σ : St} {H : Hp} {s : Shared} {fp : List Addr} (I : Inv X pins σ H s) (hf : ∀ b ∈ fp, FpOk X pins H b) (ho : ∀ b ∈ fp, ∃ o, s.heap.get? b = some o ∧ ∀ v, o.data ≠ .cell v) : Inv X (pins ++ pinsAt fp s.heap) σ H s :=
  I.pins_of fun p hp => (List.mem_append.mp hp).elim (fun z => I.pin p (List.mem_append_right _ z)) fun z => by
    obtain ⟨hb, e⟩ := of_pinsAt z
    obtain ⟨f0, f1, f2, _⟩ := hf p.1 hb
    obtain ⟨o, e', d⟩ := ho p.1 hb
    rw [e] at e'; cases e'
    exact ⟨e, f0, f1, f2, d⟩
theorem Inv.unpinned {pins pl : List (Addr × Obj)} {σ : St} {H : Hp} {s : Shared} (I : Inv X (pins ++ pl) σ H s) : Inv X pins σ H s := I.pins_of fun p hp => I.pin p (List.mem_append_right _ (List.mem_append_left _ hp))
theorem ps_for {iter : Expr} {body : List Stmt} {wi : TI} {g : TG} {tb : TS} {pos : Pos} (hp : PassesOwn (model X.prog X.w) X.A X.env X.xe) (hc : X.calm = true) (hi : PI X tg iter wi) (hg : PG X tg g) (hb : PSs X body tb)
    (hs : ∀ x, foldedSetIterable iter X.env x = pure x := by intro _; rfl) : PS X (.For tg iter body [] pos) (tFor wi g tb) := by
  intro pins s σ H D I h
  refine wpAny_For (thn (hi pins s σ H _ I h) fun v s1 h1 => thn h1 fun itv s2 h2 => ?_) hs
  obtain ⟨it, fp, tn, J, H2, e, I2, T, st2, f2, W, ⟨m0, w0⟩, turn⟩ := h2
  subst e
  -- what stays true of the iterator's objects through the loop
  have stat : ∀ {H' : Hp}, (∀ b ∈ fp, H' b = none) → ∀ b ∈ fp, FpOk X pins H' b := fun hn b hb => ⟨hn b hb, (f2 b hb).2⟩
  refine codeAny_forLoop_any (fun n s' => ∃ i σ' H', Inv X pins σ' H' s' ∧ tn i s'.heap ∧ (∀ b ∈ fp, H' b = none) ∧ W i n σ' H') ?_ m0 ⟨0, σ, H2, I2, st2, fun b hb => (f2 b hb).1, w0⟩
  rintro n s3 ⟨i, σ3, H3, I3, st3, fr3, w3⟩
  rcases turn i n σ3 H3 w3 with ⟨stop, qn⟩ | ⟨go, N, hN, step⟩
  · refine wpAny_passesOwn hp (thn (T.done X rfl rfl rfl hc i pins s3 σ3 H3 X.xe I3 (stat fr3) st3 stop) fun r s4 ⟨hr, I4⟩ => ?_)
    subst hr
    exact wpAny_execs_nil ⟨σ3, H3, I4, qn⟩
  · refine wpAny_passesOwn hp (thn (T.item X rfl rfl rfl hc i pins s3 σ3 H3 X.xe I3 (stat fr3) st3 go) fun r s4 ⟨u, hr, h4⟩ => ?_)
    subst hr
    refine wpAny_passesOwn hp (thn h4 fun _ s5 ⟨x, H5, I5, r5, y5, st5, fr5⟩ => ?_)
    have I5' := I5.pinned (stat fr5) (T.obj _ _ st5)
    refine wpAny_passesOwn hp (thn (hg _ s5 σ3 H5 x u _ I5' r5 (step x H5 y5)) fun _ s6 ⟨σ6, H6, I6, q6⟩ => ?_)
    refine wpAny_passesOwn hp (thn (hb _ s6 σ6 H6 _ I6 q6) fun f s7 q7 => ?_)
    have again : ∀ {σ7 : St} {H7 : Hp}, Inv X (pins ++ pinsAt fp s5.heap) σ7 H7 s7 → N σ7 H7 → ∃ m, m < n ∧ ∃ i σ' H', Inv X pins σ' H' s7 ∧ tn i s7.heap ∧ (∀ b ∈ fp, H' b = none) ∧ W i m σ' H' := fun {σ7 H7} I7 n7 => by
      obtain ⟨m', hm, w7⟩ := hN σ7 H7 n7
      refine ⟨m', hm, i + 1, σ7, H7, I7.unpinned, T.keep _ _ _ st5 fun b hb o e => (I7.pin (b, o) (List.mem_append_right _ (List.mem_append_right _ (mem_pinsAt hb e)))).1, fun b hb => ?_, w7⟩
      obtain ⟨o, e, d⟩ := T.obj _ _ st5 b hb
      exact (I7.pin (b, o) (List.mem_append_right _ (List.mem_append_right _ (mem_pinsAt hb e)))).2.1
    cases f with
    | next => obtain ⟨σ7, H7, I7, n7⟩ := q7; exact again I7 n7
    | cont => obtain ⟨σ7, H7, I7, n7⟩ := q7; exact again I7 n7
    | brk => obtain ⟨σ7, H7, I7, q7⟩ := q7; exact ⟨σ7, H7, I7.unpinned, q7⟩
    | ret v => obtain ⟨x7, σ7, H7, I7, r7, q7⟩ := q7; exact ⟨x7, σ7, H7, I7.unpinned, r7, q7⟩
end

/-! ### the forms one uses -/
/-- over a list that the body leaves as it is -/
theorem for_list {K : PySem.W.Frag} {a : Addr} {xs : List V} {g : TG} {tb : TS} {D : Ends} {σ : St} {H : Hp} (Pv : Nat → St → Hp → Prop) (h0 : Pv 0 σ H) (hl : ∀ i σ H, i ≤ xs.length → Pv i σ H → SqL K H a xs)
    (hs : ∀ i x σ H, xs[i]? = some x → Pv i σ H → g x σ H fun σ2 H2 => tb { D with nx := Pv (i + 1), ct := Pv (i + 1), bk := D.nx } σ2 H2) (hd : ∀ σ H, Pv xs.length σ H → D.nx σ H) :
    ∃ W : Nat → Nat → St → Hp → Prop, (∃ m, W 0 m σ H) ∧ ∀ i m σ H, W i m σ H →
      ((Itl K a).stop i H ∧ D.nx σ H) ∨ ((Itl K a).go i H ∧ ∃ N : St → Hp → Prop, (∀ σ' H', N σ' H' → ∃ m', m' < m ∧ W (i + 1) m' σ' H') ∧ ∀ x H', (Itl K a).yld i H x H' → g x σ H' fun σ2 H2 => tb { D with nx := N, ct := N, bk := D.nx } σ2 H2) := by
  refine ⟨fun i m σ H => m = xs.length - i ∧ i ≤ xs.length ∧ Pv i σ H, ⟨xs.length, by simp, Nat.zero_le _, h0⟩, ?_⟩
  rintro i m σ H ⟨rfl, hi, p⟩
  have q := hl i σ H hi p
  by_cases hlt : i < xs.length
  · refine .inr ⟨⟨xs, xs[i], q, by simp [hlt]⟩, Pv (i + 1), fun σ' H' p' => ⟨xs.length - (i + 1), by omega, rfl, hlt, p'⟩, fun x H' y => ?_⟩
    obtain ⟨e, y⟩ := y
    subst e
    exact hs i x σ _ (y xs q) p
  · have e : i = xs.length := by omega
    subst e
    exact .inl ⟨⟨xs, q, Nat.le_refl _⟩, hd σ H p⟩
theorem for_tup {K : PySem.W.Frag} {a : Addr} {xs : List V} {g : TG} {tb : TS} {D : Ends} {σ : St} {H : Hp} (Pv : Nat → St → Hp → Prop) (h0 : Pv 0 σ H) (hl : ∀ i σ H, i ≤ xs.length → Pv i σ H → SqT K H a xs)
    (hs : ∀ i x σ H, xs[i]? = some x → Pv i σ H → g x σ H fun σ2 H2 => tb { D with nx := Pv (i + 1), ct := Pv (i + 1), bk := D.nx } σ2 H2) (hd : ∀ σ H, Pv xs.length σ H → D.nx σ H) :
    ∃ W : Nat → Nat → St → Hp → Prop, (∃ m, W 0 m σ H) ∧ ∀ i m σ H, W i m σ H →
      ((Itt K a).stop i H ∧ D.nx σ H) ∨ ((Itt K a).go i H ∧ ∃ N : St → Hp → Prop, (∀ σ' H', N σ' H' → ∃ m', m' < m ∧ W (i + 1) m' σ' H') ∧ ∀ x H', (Itt K a).yld i H x H' → g x σ H' fun σ2 H2 => tb { D with nx := N, ct := N, bk := D.nx } σ2 H2) := by
  refine ⟨fun i m σ H => m = xs.length - i ∧ i ≤ xs.length ∧ Pv i σ H, ⟨xs.length, by simp, Nat.zero_le _, h0⟩, ?_⟩
  rintro i m σ H ⟨rfl, hi, p⟩
  have q := hl i σ H hi p
  by_cases hlt : i < xs.length
  · refine .inr ⟨⟨xs, xs[i], q, by simp [hlt]⟩, Pv (i + 1), fun σ' H' p' => ⟨xs.length - (i + 1), by omega, rfl, hlt, p'⟩, fun x H' y => ?_⟩
    obtain ⟨e, y⟩ := y
    subst e
    exact hs i x σ _ (y xs q) p
  · have e : i = xs.length := by omega
    subst e
    exact .inl ⟨⟨xs, q, Nat.le_refl _⟩, hd σ H p⟩
theorem for_range {lo : Int} {n : Nat} {g : TG} {tb : TS} {D : Ends} {σ : St} {H : Hp} (Pv : Nat → St → Hp → Prop) (h0 : Pv 0 σ H)
    (hs : ∀ i σ H, i < n → Pv i σ H → g (.int (lo + i)) σ H fun σ2 H2 => tb { D with nx := Pv (i + 1), ct := Pv (i + 1), bk := D.nx } σ2 H2) (hd : ∀ σ H, Pv n σ H → D.nx σ H) :
    ∃ W : Nat → Nat → St → Hp → Prop, (∃ m, W 0 m σ H) ∧ ∀ i m σ H, W i m σ H →
      ((Itr lo n).stop i H ∧ D.nx σ H) ∨ ((Itr lo n).go i H ∧ ∃ N : St → Hp → Prop, (∀ σ' H', N σ' H' → ∃ m', m' < m ∧ W (i + 1) m' σ' H') ∧ ∀ x H', (Itr lo n).yld i H x H' → g x σ H' fun σ2 H2 => tb { D with nx := N, ct := N, bk := D.nx } σ2 H2) := by
  refine ⟨fun i m σ H => m = n - i ∧ i ≤ n ∧ Pv i σ H, ⟨n, by simp, Nat.zero_le _, h0⟩, ?_⟩
  rintro i m σ H ⟨rfl, hi, p⟩
  by_cases hlt : i < n
  · refine .inr ⟨hlt, Pv (i + 1), fun σ' H' p' => ⟨n - (i + 1), by omega, rfl, hlt, p'⟩, fun x H' y => ?_⟩
    obtain ⟨e, y⟩ := y
    subst e y
    exact hs i σ _ hlt p
  · have e : i = n := by omega
    subst e
    exact .inl ⟨Nat.le_refl _, hd σ H p⟩
/-- while, by a word and a measure of the state -/
theorem while_by {c : TT} {tb : TS} {D : Ends} {σ : St} {H : Hp} (Pv : St → Hp → Prop) (μ : St → Hp → Nat) (h0 : Pv σ H)
    (hs : ∀ σ H, Pv σ H → c σ H fun b H1 => if b = true then tb { D with nx := fun σ' H' => Pv σ' H' ∧ μ σ' H' < μ σ H, ct := fun σ' H' => Pv σ' H' ∧ μ σ' H' < μ σ H, bk := D.nx } σ H1 else D.nx σ H1)
    (mono : ∀ σ H Q Q', (∀ b H1, Q b H1 → Q' b H1) → c σ H Q → c σ H Q') : tWhile c tb D σ H := by
  refine ⟨fun m σ H => m = μ σ H ∧ Pv σ H, ⟨_, rfl, h0⟩, ?_⟩
  rintro m σ H ⟨rfl, p⟩
  refine mono σ H _ _ (fun b H1 q => ?_) (hs σ H p)
  cases b with
  | true => exact ⟨_, fun σ' H' ⟨p', l⟩ => ⟨_, l, rfl, p'⟩, q⟩
  | false => exact q
end L2

namespace L2
open PySem PySem.Spec PyProof.Rows

abbrev R2 := V → V → Hp → VK → Prop
/-- a two-place operation on values: f is binaryOp op, inplaceOp op or compareOp op -/
def OpR (X : Cx) (f : Value → Value → Sem Value) (r : R2) : Prop :=
  ∀ (pins : List (Addr × Obj)) (s : Shared) (σ : St) (H : Hp) (x y : V) (v u : Value) (Q : VK), Inv X pins σ H s → RelV x v → RelV y u → r x y H Q →
    wpAny (model X.prog X.w) X.A (f v u) (EP X pins σ Q) X.xe s
/-- a one-place operation -/
def UnR (X : Cx) (f : Value → Sem Value) (r : V → Hp → VK → Prop) : Prop :=
  ∀ (pins : List (Addr × Obj)) (s : Shared) (σ : St) (H : Hp) (x : V) (v : Value) (Q : VK), Inv X pins σ H s → RelV x v → r x H Q →
    wpAny (model X.prog X.w) X.A (f v) (EP X pins σ Q) X.xe s
/-- a call of a value that is known (a builtin, a type) with values -/
def CallR (X : Cx) (f : Value) (r : List V → Hp → VK → Prop) : Prop :=
  ∀ (pins : List (Addr × Obj)) (s : Shared) (σ : St) (H : Hp) (xs : List V) (us : List Value) (Q : VK), Inv X pins σ H s → Vals xs us → r xs H Q →
    wpAny (model X.prog X.w) X.A (call f us) (EP X pins σ Q) X.xe s
/-- a value's truth -/
def TruR (X : Cx) (r : V → Hp → (Bool → Hp → Prop) → Prop) : Prop :=
  ∀ (pins : List (Addr × Obj)) (s : Shared) (σ : St) (H : Hp) (x : V) (v : Value) (Q : Bool → Hp → Prop), Inv X pins σ H s → RelV x v → r x H Q →
    wpAny (model X.prog X.w) X.A (truthy v) (TP X pins σ Q) X.xe s

def tOp (r : R2) (ta tb : TE) : TE := fun σ H Q => ta σ H fun x H1 => tb σ H1 fun y H2 => r x y H2 Q
def tUn (r : V → Hp → VK → Prop) (ta : TE) : TE := fun σ H Q => ta σ H fun x H1 => r x H1 Q
/-- ints in, under C, and a value out -/
def rI (C : Int → Int → Prop) (g : Int → Int → V) : R2 := fun x y H Q => ∃ i j, x = .int i ∧ y = .int j ∧ C i j ∧ Q (g i j) H
def rI0 (g : Int → Int → V) : R2 := fun x y H Q => ∃ i j, x = .int i ∧ y = .int j ∧ Q (g i j) H
def rU (g : Int → V) : V → Hp → VK → Prop := fun x H Q => ∃ i, x = .int i ∧ Q (g i) H

section
variable {X : Cx} {a b c : Expr} {ta tb tc : TE} {pos : Pos}

theorem binT (ha : PE X a ta) (hb : PE X b tb) {pins : List (Addr × Obj)} {s : Shared} {σ : St} {H : Hp} {R : V → V → Hp → Prop} (I : Inv X pins σ H s)
    (h : ta σ H fun x H1 => tb σ H1 fun y H2 => R x y H2) {Q : Value → Shared → Prop} {f : Value → Value → Sem Value}
    (hf : ∀ v u s2 x y H2, Inv X pins σ H2 s2 → RelV x v → RelV y u → R x y H2 → wpAny (model X.prog X.w) X.A (f v u) Q X.xe s2) :
    wpAny (model X.prog X.w) X.A (eval a X.env) (fun v s₁ => wpAny (model X.prog X.w) X.A (eval b X.env) (fun u s₂ => wpAny (model X.prog X.w) X.A (f v u) Q X.xe s₂) X.xe s₁) X.xe s := by
  refine thn (ha pins s σ H _ I h) fun v s1 ⟨x, H1, I1, r1, q1⟩ => ?_
  refine thn (hb pins s1 σ H1 _ I1 q1) fun u s2 ⟨y, H2, I2, r2, q2⟩ => ?_
  exact hf v u s2 x y H2 I2 r1 r2 q2

theorem pe_op {op : Operator} {r : R2} (ho : OpR X (binaryOp op) r) (ha : PE X a ta) (hb : PE X b tb) : PE X (.BinOp a op b pos) (tOp r ta tb) := by
  intro pins s σ H Q I h
  exact wpAny_BinOp (binT ha hb I h fun v u s2 x y H2 I2 rx ry q => ho pins s2 σ H2 x y v u Q I2 rx ry q)
theorem pe_un {op : UnaryOp} {r : V → Hp → VK → Prop} (ho : UnR X (unaryOp op) r) (ha : PE X a ta) : PE X (.UnaryOp op a pos) (tUn r ta) := by
  intro pins s σ H Q I h
  exact UnaryOp_ (thn (ha pins s σ H _ I h) fun v s1 ⟨x, H1, I1, r1, q1⟩ => ho pins s1 σ H1 x v Q I1 r1 q1)
/-- a op= e at a name: the name's slot i -/
theorem augR {op : Operator} {r : R2} (ho : OpR X (inplaceOp op) r) {pins : List (Addr × Obj)} {s : Shared} {σ : St} {H : Hp} {x y : V} {v u : Value} {Q : VK} (I : Inv X pins σ H s)
    (rx : RelV x v) (ry : RelV y u) (q : r x y H Q) : wpAny (model X.prog X.w) X.A (inplaceOp op v u) (EP X pins σ Q) X.xe s := ho pins s σ H x y v u Q I rx ry q

/-! ### ints -/
theorem opI {f : Value → Value → Sem Value} {C : Int → Int → Prop} {g : Int → Int → Int}
    (rule : ∀ (i j : Int) (t u : Tok) (s : Shared) (Q : Value → Shared → Prop) (E : Value → Shared → Prop), C i j → Q (.int (g i j) s.toks) { s with toks := s.toks + 1 } → wpAny (model X.prog X.w) X.A (f (.int i t) (.int j u)) Q E s) :
    OpR X f (rI C fun i j => .int (g i j)) := by
  intro pins s σ H x y v u Q I rx ry h
  obtain ⟨i, j, rfl, rfl, hc, q⟩ := h
  obtain ⟨t, rfl⟩ := rx
  obtain ⟨t', rfl⟩ := ry
  exact rule i j t t' s _ _ hc ⟨.int (g i j), H, I.tok _, ⟨_, rfl⟩, q⟩
theorem opI0 {f : Value → Value → Sem Value} {g : Int → Int → Int}
    (rule : ∀ (i j : Int) (t u : Tok) (s : Shared) (Q : Value → Shared → Prop) (E : Value → Shared → Prop), Q (.int (g i j) s.toks) { s with toks := s.toks + 1 } → wpAny (model X.prog X.w) X.A (f (.int i t) (.int j u)) Q E s) :
    OpR X f (rI0 fun i j => .int (g i j)) := by
  intro pins s σ H x y v u Q I rx ry h
  obtain ⟨i, j, rfl, rfl, q⟩ := h
  obtain ⟨t, rfl⟩ := rx
  obtain ⟨t', rfl⟩ := ry
  exact rule i j t t' s _ _ ⟨.int (g i j), H, I.tok _, ⟨_, rfl⟩, q⟩
theorem opB0 {f : Value → Value → Sem Value} {g : Int → Int → Bool}
    (rule : ∀ (i j : Int) (t u : Tok) (s : Shared) (Q : Value → Shared → Prop) (E : Value → Shared → Prop), Q (.bool (g i j)) s → wpAny (model X.prog X.w) X.A (f (.int i t) (.int j u)) Q E s) :
    OpR X f (rI0 fun i j => .bl (g i j)) := by
  intro pins s σ H x y v u Q I rx ry h
  obtain ⟨i, j, rfl, rfl, q⟩ := h
  obtain ⟨t, rfl⟩ := rx
  obtain ⟨t', rfl⟩ := ry
  exact rule i j t t' s _ _ ⟨.bl (g i j), H, I, rfl, q⟩

def CDiv (i j : Int) : Prop := 0 < j ∧ j < 1073741824
def CDivN (i j : Int) : Prop := j ≠ 0 ∧ j.natAbs < 1073741824
def CPow (i j : Int) : Prop := 0 ≤ j ∧ j ≤ 1000000 ∧ i.natAbs < 2 ^ 64
def CMul (i j : Int) : Prop := (-(2 ^ 64) < i ∧ i < 2 ^ 64) ∨ (-(2 ^ 64) < j ∧ j < 2 ^ 64)
theorem CMul.ok {i j : Int} (h : CMul i j) : IntMulOk i j := by
  rcases h with ⟨h1, h2⟩ | ⟨h1, h2⟩
  · exact .of_left (intBits_le_64 h1 h2)
  · exact .of_right (intBits_le_64 h1 h2)
theorem two_pow_nn (k : Nat) : (0 : Int) ≤ 2 ^ k := by
  rw [two_pow_cast]
  exact Int.natCast_nonneg _

theorem op_add : OpR X (binaryOp .Add) (rI0 fun i j => .int (i + j)) := opI0 fun _ _ _ _ _ _ _ q => add_int q
theorem op_sub : OpR X (binaryOp .Sub) (rI0 fun i j => .int (i - j)) := opI0 fun _ _ _ _ _ _ _ q => sub_int q
theorem op_mul : OpR X (binaryOp .Mult) (rI CMul fun i j => .int (i * j)) := opI fun _ _ _ _ _ _ _ hc q => mul_int q hc.ok
/-- // by a positive divisor -/
theorem op_fdiv : OpR X (binaryOp .FloorDiv) (rI CDiv fun i j => .int (i / j)) := opI fun i j _ _ _ _ _ hc q => by
  have h1 : (0 : Int) < j := hc.1
  have h2 : j < 1073741824 := hc.2
  exact floordiv_int (by omega) (by rw [Int.fdiv_eq_ediv_of_nonneg i (by omega)]; exact q) (.inl (PyProof.noPylong_small (by omega)))
theorem op_fdivN : OpR X (binaryOp .FloorDiv) (rI CDivN fun i j => .int (i.fdiv j)) := opI fun _ _ _ _ _ _ _ hc q => floordiv_int hc.1 q (.inl (PyProof.noPylong_small hc.2))
/-- % by a positive divisor of any size -/
theorem op_mod : OpR X (binaryOp .Mod) (rI (fun _ j => 0 < j) fun i j => .int (i % j)) := opI fun i j _ _ _ _ _ hc q => by
  have h1 : (0 : Int) < j := hc
  exact mod_int' (by omega) (by rw [Int.fmod_eq_emod_of_nonneg i (by omega)]; exact q)
theorem op_modN : OpR X (binaryOp .Mod) (rI (fun _ j => j ≠ 0) fun i j => .int (i.fmod j)) := opI fun _ _ _ _ _ _ _ hc q => mod_int' hc q
theorem op_pow : OpR X (binaryOp .Pow) (rI CPow fun i j => .int (i ^ j.toNat)) := opI fun _ _ _ _ _ _ _ hc q => pow_int_small hc.1 hc.2.1 hc.2.2 q
theorem op_shl : OpR X (binaryOp .LShift) (rI CPow fun i j => .int (i * 2 ^ j.toNat)) := opI fun _ _ _ _ _ _ _ hc q => lshift_int_small hc.1 hc.2.1 hc.2.2 q
theorem op_shr : OpR X (binaryOp .RShift) (rI (fun _ j => 0 ≤ j) fun i j => .int (i / 2 ^ j.toNat)) := opI fun i j _ _ _ _ _ hc q =>
  rshift_int hc (by rw [Int.fdiv_eq_ediv_of_nonneg i (two_pow_nn _)]; exact q)
theorem op_and : OpR X (binaryOp .BitAnd) (rI0 fun i j => .int (Builtin.bitAnd i j)) := opI0 fun _ _ _ _ _ _ _ q => and_int q
theorem op_or : OpR X (binaryOp .BitOr) (rI0 fun i j => .int (Builtin.bitOr i j)) := opI0 fun _ _ _ _ _ _ _ q => or_int q
theorem op_xor : OpR X (binaryOp .BitXor) (rI0 fun i j => .int (Builtin.bitXor i j)) := opI0 fun _ _ _ _ _ _ _ q => xor_int q

theorem iop_add : OpR X (inplaceOp .Add) (rI0 fun i j => .int (i + j)) := opI0 fun _ _ _ _ _ _ _ q => iadd_int q
theorem iop_sub : OpR X (inplaceOp .Sub) (rI0 fun i j => .int (i - j)) := opI0 fun _ _ _ _ _ _ _ q => isub_int q
theorem iop_mul : OpR X (inplaceOp .Mult) (rI CMul fun i j => .int (i * j)) := opI fun _ _ _ _ _ _ _ hc q => imul_int q hc.ok
theorem iop_fdiv : OpR X (inplaceOp .FloorDiv) (rI CDiv fun i j => .int (i / j)) := opI fun i j _ _ _ _ _ hc q => by
  have h1 : (0 : Int) < j := hc.1
  have h2 : j < 1073741824 := hc.2
  exact ifloordiv_int (by omega) (by rw [Int.fdiv_eq_ediv_of_nonneg i (by omega)]; exact q) (.inl (PyProof.noPylong_small (by omega)))
theorem iop_mod : OpR X (inplaceOp .Mod) (rI (fun _ j => 0 < j) fun i j => .int (i % j)) := opI fun i j _ _ _ _ _ hc q => by
  have h1 : (0 : Int) < j := hc
  exact imod_int (by omega) (by rw [Int.fmod_eq_emod_of_nonneg i (by omega)]; exact q)
theorem iop_shl : OpR X (inplaceOp .LShift) (rI CPow fun i j => .int (i * 2 ^ j.toNat)) := opI fun _ _ _ _ _ _ _ hc q => ilshift_int_small hc.1 hc.2.1 hc.2.2 q
theorem iop_shr : OpR X (inplaceOp .RShift) (rI (fun _ j => 0 ≤ j) fun i j => .int (i / 2 ^ j.toNat)) := opI fun i j _ _ _ _ _ hc q =>
  irshift_int hc (by rw [Int.fdiv_eq_ediv_of_nonneg i (two_pow_nn _)]; exact q)
theorem iop_and : OpR X (inplaceOp .BitAnd) (rI0 fun i j => .int (Builtin.bitAnd i j)) := opI0 fun _ _ _ _ _ _ _ q => iand_int q
theorem iop_or : OpR X (inplaceOp .BitOr) (rI0 fun i j => .int (Builtin.bitOr i j)) := opI0 fun _ _ _ _ _ _ _ q => ior_int q
theorem iop_xor : OpR X (inplaceOp .BitXor) (rI0 fun i j => .int (Builtin.bitXor i j)) := opI0 fun _ _ _ _ _ _ _ q => ixor_int q

theorem unI {f : Value → Sem Value} {g : Int → Int}
    (rule : ∀ (i : Int) (t : Tok) (s : Shared) (Q : Value → Shared → Prop) (E : Value → Shared → Prop), Q (.int (g i) s.toks) { s with toks := s.toks + 1 } → wpAny (model X.prog X.w) X.A (f (.int i t)) Q E s) :
    UnR X f (rU fun i => .int (g i)) := by
  intro pins s σ H x v Q I rx h
  obtain ⟨i, rfl, q⟩ := h
  obtain ⟨t, rfl⟩ := rx
  exact rule i t s _ _ ⟨.int (g i), H, I.tok _, ⟨_, rfl⟩, q⟩
theorem un_neg : UnR X (unaryOp .USub) (rU fun i => .int (-i)) := unI fun _ _ _ _ _ q => neg_int q
theorem un_inv : UnR X (unaryOp .Invert) (rU fun i => .int (Builtin.bitNot i)) := unI fun _ _ _ _ _ q => invert_int q

/-! ### bools among ints: n += (a < b) -/
theorem op_add_ib : OpR X (binaryOp .Add) (fun x y H Q => ∃ i k, x = .int i ∧ y = .bl k ∧ Q (.int (i + b2i k)) H) := by
  intro pins s σ H x y v u Q I rx ry h
  obtain ⟨i, k, rfl, rfl, q⟩ := h
  obtain ⟨t, rfl⟩ := rx
  cases ry
  exact add_int_bool ⟨.int (i + b2i k), H, I.tok _, ⟨_, rfl⟩, q⟩
end

/-! ### comparisons -/
/-- the scalars that == tells apart as data does -/
def scal : V → V → Bool
  | .non, .non => true | .non, .int _ => true | .int _, .non => true | .non, .bl _ => true | .bl _, .non => true | .non, .str _ => true | .str _, .non => true
  | .int _, .int _ => true | .bl _, .bl _ => true | .str _, .str _ => true | .byt _, .byt _ => true
  | .int _, .str _ => true | .str _, .int _ => true | .bl _, .str _ => true | .str _, .bl _ => true
  | _, _ => false
def rEq : R2 := fun x y H Q => scal x y = true ∧ Q (.bl (decide (x = y))) H
def rNe : R2 := fun x y H Q => scal x y = true ∧ Q (.bl (!decide (x = y))) H

theorem dec_int {i j : Int} : decide (V.int i = V.int j) = (i == j) := by
  rw [Bool.eq_iff_iff]
  simp
theorem dec_bl {i j : Bool} : decide (V.bl i = V.bl j) = (i == j) := by
  rw [Bool.eq_iff_iff]
  simp
theorem dec_str {i j : Str} : decide (V.str i = V.str j) = (i == j) := by
  rw [Bool.eq_iff_iff]
  simp
theorem dec_byt {i j : Array UInt8} : decide (V.byt i = V.byt j) = (i.toList == j.toList) := by
  rw [Bool.eq_iff_iff]
  cases i
  cases j
  simp

section
variable {X : Cx} {a b c : Expr} {ta tb tc : TE} {pos : Pos}
theorem fin_bl {pins : List (Addr × Obj)} {σ : St} {H : Hp} {s : Shared} {Q : VK} {k k' : Bool} (I : Inv X pins σ H s) (q : Q (.bl k) H) (e : k = k') : EP X pins σ Q (.bool k') s := by
  subst e
  exact ⟨.bl k, H, I, rfl, q⟩
theorem op_eq : OpR X (compareOp .Eq) rEq := by
  intro pins s σ H x y v u Q I rx ry h
  obtain ⟨hs, q⟩ := h
  cases x with
  | non =>
    cases rx
    cases y with
    | non => cases ry; exact PySem.EqNone.eq_none_none (fin_bl I q (by simp))
    | bl j => cases ry; exact PySem.EqNone.eq_none_bool (fin_bl I q (by simp))
    | int j => obtain ⟨t', rfl⟩ := ry; exact PySem.EqNone.eq_none_int (fin_bl I q (by simp))
    | str j => obtain ⟨t', rfl⟩ := ry; exact PySem.EqNone.eq_none_str (fin_bl I q (by simp))
    | _ => exact absurd (show false = true from hs) Bool.false_ne_true
  | bl i =>
    cases rx
    cases y with
    | non => cases ry; exact PySem.EqNone.eq_bool_none (fin_bl I q (by simp))
    | bl j => cases ry; exact eq_bool (fin_bl I q dec_bl)
    | str j => obtain ⟨t', rfl⟩ := ry; exact PySem.EqMixed.eq_bool_str (fin_bl I q (by simp))
    | _ => exact absurd (show false = true from hs) Bool.false_ne_true
  | int i =>
    obtain ⟨t, rfl⟩ := rx
    cases y with
    | non => cases ry; exact PySem.EqNone.eq_int_none (fin_bl I q (by simp))
    | int j => obtain ⟨t', rfl⟩ := ry; exact eq_int (fin_bl I q dec_int)
    | str j => obtain ⟨t', rfl⟩ := ry; exact PySem.EqMixed.eq_int_str (fin_bl I q (by simp))
    | _ => exact absurd (show false = true from hs) Bool.false_ne_true
  | str i =>
    obtain ⟨t, rfl⟩ := rx
    cases y with
    | non => cases ry; exact PySem.EqNone.eq_str_none (fin_bl I q (by simp))
    | bl j => cases ry; exact PySem.EqMixed.eq_str_bool (fin_bl I q (by simp))
    | int j => obtain ⟨t', rfl⟩ := ry; exact PySem.EqMixed.eq_str_int (fin_bl I q (by simp))
    | str j => obtain ⟨t', rfl⟩ := ry; exact eq_str (fin_bl I q dec_str)
    | _ => exact absurd (show false = true from hs) Bool.false_ne_true
  | byt i =>
    obtain ⟨t, rfl⟩ := rx
    cases y with
    | byt j => obtain ⟨t', rfl⟩ := ry; exact PySem.W.eq_bytes (fin_bl I q dec_byt)
    | _ => exact absurd (show false = true from hs) Bool.false_ne_true
  | _ => cases y <;> exact absurd (show false = true from hs) Bool.false_ne_true
theorem op_ne : OpR X (compareOp .NotEq) rNe := by
  intro pins s σ H x y v u Q I rx ry h
  obtain ⟨hs, q⟩ := h
  cases x with
  | non =>
    cases rx
    cases y with
    | non => cases ry; exact PySem.EqNone.ne_none_none (fin_bl I q (by simp))
    | bl j => cases ry; exact PySem.EqNone.ne_none_bool (fin_bl I q (by simp))
    | int j => obtain ⟨t', rfl⟩ := ry; exact PySem.EqNone.ne_none_int (fin_bl I q (by simp))
    | str j => obtain ⟨t', rfl⟩ := ry; exact PySem.EqNone.ne_none_str (fin_bl I q (by simp))
    | _ => exact absurd (show false = true from hs) Bool.false_ne_true
  | bl i =>
    cases rx
    cases y with
    | non => cases ry; exact PySem.EqNone.ne_bool_none (fin_bl I q (by simp))
    | bl j => cases ry; exact ne_bool (fin_bl I q (congrArg not dec_bl))
    | str j => obtain ⟨t', rfl⟩ := ry; exact PySem.EqMixed.ne_bool_str (fin_bl I q (by simp))
    | _ => exact absurd (show false = true from hs) Bool.false_ne_true
  | int i =>
    obtain ⟨t, rfl⟩ := rx
    cases y with
    | non => cases ry; exact PySem.EqNone.ne_int_none (fin_bl I q (by simp))
    | int j => obtain ⟨t', rfl⟩ := ry; exact ne_int (fin_bl I q (congrArg not dec_int))
    | str j => obtain ⟨t', rfl⟩ := ry; exact PySem.EqMixed.ne_int_str (fin_bl I q (by simp))
    | _ => exact absurd (show false = true from hs) Bool.false_ne_true
  | str i =>
    obtain ⟨t, rfl⟩ := rx
    cases y with
    | non => cases ry; exact PySem.EqNone.ne_str_none (fin_bl I q (by simp))
    | bl j => cases ry; exact PySem.EqMixed.ne_str_bool (fin_bl I q (by simp))
    | int j => obtain ⟨t', rfl⟩ := ry; exact PySem.EqMixed.ne_str_int (fin_bl I q (by simp))
    | str j => obtain ⟨t', rfl⟩ := ry; exact ne_str (fin_bl I q (congrArg not dec_str))
    | _ => exact absurd (show false = true from hs) Bool.false_ne_true
  | byt i =>
    obtain ⟨t, rfl⟩ := rx
    cases y with
    | byt j => obtain ⟨t', rfl⟩ := ry; exact PySem.W.ne_bytes (fin_bl I q (congrArg not dec_byt))
    | _ => exact absurd (show false = true from hs) Bool.false_ne_true
  | _ => cases y <;> exact absurd (show false = true from hs) Bool.false_ne_true

theorem op_lt : OpR X (compareOp .Lt) (rI0 fun i j => .bl (decide (i < j))) := opB0 fun _ _ _ _ _ _ _ q => lt_int q
theorem op_le : OpR X (compareOp .LtE) (rI0 fun i j => .bl (decide (i ≤ j))) := opB0 fun _ _ _ _ _ _ _ q => le_int q
theorem op_gt : OpR X (compareOp .Gt) (rI0 fun i j => .bl (decide (j < i))) := opB0 fun _ _ _ _ _ _ _ q => gt_int q
theorem op_ge : OpR X (compareOp .GtE) (rI0 fun i j => .bl (decide (j ≤ i))) := opB0 fun _ _ _ _ _ _ _ q => ge_int q
theorem op_lt_str : OpR X (compareOp .Lt) (fun x y H Q => ∃ i j, x = .str i ∧ y = .str j ∧ Q (.bl (decide (i.cps.toList < j.cps.toList))) H) := by
  intro pins s σ H x y v u Q I rx ry h
  obtain ⟨i, j, rfl, rfl, q⟩ := h
  obtain ⟨t, rfl⟩ := rx
  obtain ⟨t', rfl⟩ := ry
  exact lt_str (fin_bl I q rfl)
/-- the one string within the other -/
theorem op_in_str : OpR X (compareOp .In) (fun x y H Q => ∃ i j, x = .str i ∧ y = .str j ∧ Q (.bl (!(Builtin.Str.occurrences j i 0 j.length 1).isEmpty)) H) := by
  intro pins s σ H x y v u Q I rx ry h
  obtain ⟨i, j, rfl, rfl, q⟩ := h
  obtain ⟨t, rfl⟩ := rx
  obtain ⟨t', rfl⟩ := ry
  exact in_str (fin_bl I q rfl)

/-- is None, is not None: the right side a value none -/
theorem op_isN : OpR X (compareOp .Is) (fun x y H Q => y = .non ∧ Q (.bl (decide (x = .non))) H) := by
  intro pins s σ H x y v u Q I rx ry h
  obtain ⟨rfl, q⟩ := h
  cases ry
  refine is_none_gen (fin_bl I q ?_)
  cases x <;> first
    | (cases rx; rfl)
    | (obtain ⟨t, rfl⟩ := rx; rfl)
theorem op_notN : OpR X (compareOp .IsNot) (fun x y H Q => y = .non ∧ Q (.bl (!decide (x = .non))) H) := by
  intro pins s σ H x y v u Q I rx ry h
  obtain ⟨rfl, q⟩ := h
  cases ry
  refine isnot_none_gen (fin_bl I q ?_)
  cases x <;> first
    | (cases rx; rfl)
    | (obtain ⟨t, rfl⟩ := rx; rfl)

theorem op_notin_str : OpR X (compareOp .NotIn) (fun x y H Q => ∃ i j, x = .str i ∧ y = .str j ∧ Q (.bl (!(!(Builtin.Str.occurrences j i 0 j.length 1).isEmpty))) H) := by
  intro pins s σ H x y v u Q I rx ry h
  obtain ⟨i, j, rfl, rfl, q⟩ := h
  obtain ⟨t, rfl⟩ := rx
  obtain ⟨t', rfl⟩ := ry
  exact notIn_str (fin_bl I q rfl)
/-- is, is not of two objects that are tracked lists or instances -/
def isObj : HO → Bool
  | .lst _ => true
  | .ins _ _ _ => true
  | _ => false
theorem obj_there {pins : List (Addr × Obj)} {s : Shared} {σ : St} {H : Hp} {a : Addr} {o : HO} (I : Inv X pins σ H s) (h : H a = some o) (p : isObj o = true) : ∃ ob, s.heap.get? a = some ob ∧ ob.cls ≠ .type "tuple" := by
  cases o with
  | lst xs =>
    obtain ⟨_, its, n, _, e⟩ : xs.length ≤ sizeLine ∧ ∃ (its : List Value) (n : Nat), Vals xs its ∧ s.heap.get? a = some { cls := .type "list", data := .seq its.toArray n } := I.hok a _ h
    exact ⟨_, e, (by show Value.type "list" ≠ .type "tuple"; decide +kernel)⟩
  | ins C dx fs =>
    have x := I.hok a _ h
    obtain ⟨_, _, _, e, _⟩ := x
    exact ⟨_, e, (by show Value.ref C ≠ .type "tuple"; exact fun z => by cases z)⟩
  | _ => exact absurd (show false = true from p) Bool.false_ne_true
theorem op_is_ref : OpR X (compareOp .Is) (fun x y H Q => ∃ a b oa ob, x = .ref a ∧ y = .ref b ∧ H a = some oa ∧ isObj oa = true ∧ H b = some ob ∧ isObj ob = true ∧ Q (.bl (decide (a = b))) H) := by
  intro pins s σ H x y v u Q I rx ry h
  obtain ⟨a, b, oa, ob, rfl, rfl, ha, pa, hb, pb, q⟩ := h
  cases rx
  cases ry
  obtain ⟨o1, e1, n1⟩ := obj_there I ha pa
  obtain ⟨o2, e2, _⟩ := obj_there I hb pb
  by_cases z : a = b
  · subst z
    exact wpAny_is_ref_self (fin_bl I q (by simp))
  · exact wpAny_is_ref_other z e1 e2 n1 (fin_bl I q (by simp [z]))
theorem op_isnot_ref : OpR X (compareOp .IsNot) (fun x y H Q => ∃ a b oa ob, x = .ref a ∧ y = .ref b ∧ H a = some oa ∧ isObj oa = true ∧ H b = some ob ∧ isObj ob = true ∧ Q (.bl (!decide (a = b))) H) := by
  intro pins s σ H x y v u Q I rx ry h
  obtain ⟨a, b, oa, ob, rfl, rfl, ha, pa, hb, pb, q⟩ := h
  cases rx
  cases ry
  obtain ⟨o1, e1, n1⟩ := obj_there I ha pa
  obtain ⟨o2, e2, _⟩ := obj_there I hb pb
  by_cases z : a = b
  · subst z
    exact wpAny_isNot_ref_self (fin_bl I q (by simp))
  · exact wpAny_isNot_ref_other z e1 e2 n1 (fin_bl I q (by simp [z]))

/-- two rules for one operation: by cases -/
theorem OpR.or {f : Value → Value → Sem Value} {r r' : R2} (h : OpR X f r) (h' : OpR X f r') : OpR X f (fun x y H Q => r x y H Q ∨ r' x y H Q) := by
  intro pins s σ H x y v u Q I rx ry q
  rcases q with q | q
  · exact h pins s σ H x y v u Q I rx ry q
  · exact h' pins s σ H x y v u Q I rx ry q

theorem nomark (b : Expr) {op : CmpOp} (h : op ≠ .In := by decide) (h2 : op ≠ .NotIn := by decide) : behindInMarks op b = false := by
  have e1 : (op == CmpOp.In) = false := by cases op <;> first | rfl | exact absurd rfl h
  have e2 : (op == CmpOp.NotIn) = false := by cases op <;> first | rfl | exact absurd rfl h2
  cases b <;> simp [behindInMarks, e1, e2]
/-- a comparison as a value; hm: nomark b, or (for in, not in) by with_unfolding_all rfl -/
theorem pe_cmpR {op : CmpOp} {r : R2} (ho : OpR X (compareOp op) r) (ha : PE X a ta) (hb : PE X b tb) (hm : behindInMarks op b = false) : PE X (.Compare a [op] [b] pos) (tOp r ta tb) := by
  intro pins s σ H Q I h
  exact wpAny_Compare1 (binT ha hb I h fun v u s2 x y H2 I2 rx ry q => ho pins s2 σ H2 x y v u Q I2 rx ry q) hm
/-- a reading of a value as a test -/
def tTest (t : TE) : TT := fun σ H Q => t σ H fun x H' => ∃ k, x = .bl k ∧ Q k H'
theorem pt_cmpR {op : CmpOp} {r : R2} (ho : OpR X (compareOp op) r) (ha : PE X a ta) (hb : PE X b tb) (hm : behindInMarks op b = false) : PT X (.Compare a [op] [b] pos) (tTest (tOp r ta tb)) := by
  intro pins s σ H Q I h
  refine wpAny_isTrue_Compare1 (thn (ha pins s σ H _ I h) fun v s1 ⟨x, H1, I1, r1, q1⟩ => thn (hb pins s1 σ H1 _ I1 q1) fun u s2 ⟨y, H2, I2, r2, q2⟩ =>
    thn (ho pins s2 σ H2 x y v u _ I2 r1 r2 q2) fun c s3 ⟨z, H3, I3, r3, k, e, q3⟩ => ?_) hm
  subst e
  cases r3
  exact wpAny_truthy_bool ⟨H3, I3, q3⟩
/-- a op1 b op2 c -/
def tChain (r r' : R2) (ta tb tc : TE) : TE := fun σ H Q => ta σ H fun x H1 => tb σ H1 fun y H2 => r x y H2 fun z H3 => ∃ k, z = .bl k ∧
  (if k = true then tc σ H3 fun w' H4 => r' y w' H4 Q else Q (.bl false) H3)
theorem pe_chain {op op' : CmpOp} {r r' : R2} (ho : OpR X (compareOp op) r) (ho' : OpR X (compareOp op') r') (ha : PE X a ta) (hb : PE X b tb) (hc : PE X c tc)
    (hm : lastMarks [op, op'] [b, c] = false := by with_unfolding_all rfl) : PE X (.Compare a [op, op'] [b, c] pos) (tChain r r' ta tb tc) := by
  intro pins s σ H Q I h
  refine Compare_chain (thn (ha pins s σ H _ I h) fun v s1 ⟨x, H1, I1, r1, q1⟩ => chain_link (thn (hb pins s1 σ H1 _ I1 q1) fun u s2 ⟨y, H2, I2, r2, q2⟩ =>
    thn (ho pins s2 σ H2 x y v u _ I2 r1 r2 q2) fun d s3 ⟨z, H3, I3, r3, k, e, q3⟩ => ?_)) hm
  subst e
  cases r3
  refine wpAny_truthy_bool ?_
  cases k with
  | false => exact ite_ff ⟨.bl false, H3, I3, rfl, q3⟩
  | true => exact ite_tt (chain_last (thn (hc pins s3 σ H3 _ I3 q3) fun w' s4 ⟨z', H4, I4, r4, q4⟩ => ho' pins s4 σ H4 y z' u w' Q I4 r2 r4 q4))
theorem pt_chain {op op' : CmpOp} {r r' : R2} (ho : OpR X (compareOp op) r) (ho' : OpR X (compareOp op') r') (ha : PE X a ta) (hb : PE X b tb) (hc : PE X c tc)
    (hm : lastMarks [op, op'] [b, c] = false := by with_unfolding_all rfl) : PT X (.Compare a [op, op'] [b, c] pos) (tTest (tChain r r' ta tb tc)) := by
  intro pins s σ H Q I h
  refine isTrue_chain (thn (ha pins s σ H _ I h) fun v s1 ⟨x, H1, I1, r1, q1⟩ => test_link (thn (hb pins s1 σ H1 _ I1 q1) fun u s2 ⟨y, H2, I2, r2, q2⟩ =>
    thn (ho pins s2 σ H2 x y v u _ I2 r1 r2 q2) fun d s3 ⟨z, H3, I3, r3, k, e, q3⟩ => ?_)) hm
  subst e
  cases r3
  refine wpAny_truthy_bool ?_
  cases k with
  | false =>
    obtain ⟨k', e', q'⟩ := q3
    cases e'
    exact ite_ff ⟨H3, I3, q'⟩
  | true =>
    refine ite_tt (test_last (thn (hc pins s3 σ H3 _ I3 q3) fun w' s4 ⟨z', H4, I4, r4, q4⟩ => thn (ho' pins s4 σ H4 y z' u w' _ I4 r2 r4 q4) fun d' s5 ⟨z2, H5, I5, r5, k2, e2, q5⟩ => ?_))
    subst e2
    cases r5
    exact wpAny_truthy_bool ⟨H5, I5, q5⟩

/-! ### truth -/
/-- a value's truth by the abstract heap -/
def TruV (K : PySem.W.Frag) (x : V) (H : Hp) (k : Bool) : Prop :=
  match x with
  | .non => k = false
  | .bl b => k = b
  | .int i => k = (i != 0)
  | .str y => y.length ≤ sizeLine ∧ k = ((y.length : Int) != 0)
  | .byt y => y.size ≤ sizeLine ∧ k = ((y.size : Int) != 0)
  | .ref p => (∃ xs, SqL K H p xs ∧ k = !xs.isEmpty) ∨ (∃ xs, SqT K H p xs ∧ k = !xs.isEmpty) ∨ ∃ kvs, H p = some (.dK kvs) ∧ k = !kvs.isEmpty
  | _ => False
theorem isEmpty_kv {κ : Type} {kvs : List (κ × V)} {vs : List (κ × Value)} (r : KV kvs vs) : (!vs.isEmpty) = !kvs.isEmpty := by
  cases r <;> rfl
theorem isEmpty_of {xs : List V} {its : List Value} (r : Vals xs its) : (!its.toArray.isEmpty) = !xs.isEmpty := by
  cases r <;> simp
theorem line63 : (sizeLine : Nat) < 2 ^ 63 := by rw [sizeLine_eq]; decide
theorem tru_ok : TruR X (fun x H Q => ∃ k, TruV X.K x H k ∧ Q k H) := by
  intro pins s σ H x v Q I rx h
  obtain ⟨k, e, q⟩ := h
  have hl := line63
  have hs : sizeLine = 16777216 := sizeLine_eq
  cases x with
  | non =>
    cases rx
    have e' : k = false := e
    subst e'
    exact truthy_none ⟨H, I, q⟩
  | bl b =>
    cases rx
    have e' : k = b := e
    subst e'
    exact wpAny_truthy_bool ⟨H, I, q⟩
  | int i =>
    obtain ⟨t, rfl⟩ := rx
    have e' : k = (i != 0) := e
    subst e'
    exact PySem.P.truthy_int ⟨H, I, q⟩
  | str y =>
    obtain ⟨t, rfl⟩ := rx
    obtain ⟨hy, e'⟩ : y.length ≤ sizeLine ∧ k = ((y.length : Int) != 0) := e
    subst e'
    exact PySem.P.truthy_str (by omega) ⟨H, I.tok _, q⟩
  | byt y =>
    obtain ⟨t, rfl⟩ := rx
    obtain ⟨hy, e'⟩ : y.size ≤ sizeLine ∧ k = ((y.size : Int) != 0) := e
    subst e'
    exact PySem.W.truthy_bytes (by omega) ⟨H, I.tok _, q⟩
  | ref p =>
    cases rx
    have e' : (∃ xs, SqL X.K H p xs ∧ k = !xs.isEmpty) ∨ (∃ xs, SqT X.K H p xs ∧ k = !xs.isEmpty) ∨ ∃ kvs, H p = some (.dK kvs) ∧ k = !kvs.isEmpty := e
    rcases e' with ⟨xs, hx, e'⟩ | ⟨xs, hx, e'⟩ | ⟨kvs, hx, e'⟩
    · subst e'
      obtain ⟨its, r, pl, hz⟩ := I.list hx
      have hlen := r.length
      exact wpAny_truthy_list pl.isList (by simp only [List.size_toArray]; omega) ⟨H, I.tok _, by rw [isEmpty_of r]; exact q⟩
    · subst e'
      obtain ⟨its, r, pl, hz⟩ := I.tuple hx
      have hlen := r.length
      exact truthy_tuple pl (by simp only [List.size_toArray]; omega) ⟨H, I.tok _, by rw [isEmpty_of r]; exact q⟩
    · subst e'
      obtain ⟨hz, hS, vs, r, m⟩ : kvs.length ≤ sizeLine ∧ (p == sysModules) = false ∧ ∃ vs, KV kvs vs ∧ s.heap.DictOf (mixKind X.prog X.w) p vs := I.hok p _ hx
      have hlen : kvs.length = vs.length := Paired.length r
      exact wpAny_truthy_dict hS m (by omega) ⟨H, I.tok _, by rw [isEmpty_kv r]; exact q⟩
  | _ => exact (show False from e).elim
/-- any expression whose test is its value's truth (a name, a call, a subscript, a field ..: he by fun _ => rfl) -/
theorem pt_truth (ha : PE X a ta) (he : ∀ whole, isTrue a X.env whole = (do let v ← whole; standAt a.pos; holding [v] (truthy v))) :
    PT X a (fun σ H Q => ta σ H fun x H' => ∃ k, TruV X.K x H' k ∧ Q k H') := by
  intro pins s σ H Q I h
  exact isTrue_plain (thn (ha pins s σ H _ I h) fun v s1 ⟨x, H1, I1, r1, q1⟩ => tru_ok pins s1 σ H1 x v Q I1 r1 q1) (he _)

/-! ### strs and bytes -/
theorem pe_byt {x : List UInt8} {k : Nat} : PE X (.Constant (.bytes x) k pos) (fun _ H Q => Q (.byt x.toArray) H) := fun _ _ _ H _ I h => PySem.W.Constant_bytes ⟨.byt x.toArray, H, I.tok _, ⟨_, rfl⟩, h⟩
theorem op_add_str : OpR X (binaryOp .Add) (fun x y H Q => ∃ i j, x = .str i ∧ y = .str j ∧ i.length + j.length ≤ sizeLine ∧ Q (.str (i ++ j)) H) := by
  intro pins s σ H x y v u Q I rx ry h
  obtain ⟨i, j, rfl, rfl, hz, q⟩ := h
  obtain ⟨t, rfl⟩ := rx
  obtain ⟨t', rfl⟩ := ry
  exact add_str (fun t' tk => ⟨.str (i ++ j), H, I.tok _, ⟨_, rfl⟩, q⟩) hz
theorem iop_add_str : OpR X (inplaceOp .Add) (fun x y H Q => ∃ i j, x = .str i ∧ y = .str j ∧ i.length + j.length ≤ sizeLine ∧ Q (.str (i ++ j)) H) := by
  intro pins s σ H x y v u Q I rx ry h
  obtain ⟨i, j, rfl, rfl, hz, q⟩ := h
  obtain ⟨t, rfl⟩ := rx
  obtain ⟨t', rfl⟩ := ry
  exact iadd_str (fun t' tk => ⟨.str (i ++ j), H, I.tok _, ⟨_, rfl⟩, q⟩) hz
theorem op_add_byt : OpR X (binaryOp .Add) (fun x y H Q => ∃ i j, x = .byt i ∧ y = .byt j ∧ i.size + j.size ≤ 16777216 ∧ Q (.byt (i ++ j)) H) := by
  intro pins s σ H x y v u Q I rx ry h
  obtain ⟨i, j, rfl, rfl, hz, q⟩ := h
  obtain ⟨t, rfl⟩ := rx
  obtain ⟨t', rfl⟩ := ry
  exact PySem.W.KBy.add_bytes hz (fun t' tk => ⟨.byt (i ++ j), H, I.tok _, ⟨_, rfl⟩, q⟩)

def PlainIxT (b : Expr) : Prop := ∀ o i, subscripted b false o i = operate [o, i] (getItem o i)
/-- s[i], 0 ≤ i < len -/
theorem pe_item_str (ha : PE X a ta) (hb : PE X b tb) (hs : PlainIxT b) :
    PE X (.Subscript a b pos) (tOp (fun x y H Q => ∃ z i c, x = .str z ∧ y = .int i ∧ 0 ≤ i ∧ i < 2 ^ 63 ∧ i < z.length ∧ z.cps[i.toNat]? = some c ∧ Q (.str ⟨#[c]⟩) H) ta tb) := by
  intro pins s σ H Q I h
  refine Subscript_ (binT ha hb I h fun v u s2 x y H2 I2 rx ry q => ?_)
  obtain ⟨z, i, c, rfl, rfl, h0, h63, h1, hc, q⟩ := q
  obtain ⟨t, rfl⟩ := rx
  obtain ⟨t', rfl⟩ := ry
  have e : seqIndex? i z.length = some i.toNat := PySem.StrLaws.seqIndex_nonneg h0 h1
  exact tail_any (typeIs_str s2 z t) slot_str_getitem.lookup (getItem_str (c := c) (by
    have e1 : decide (i < -(2 ^ 63 : Int)) = false := decide_eq_false (by omega)
    have e2 : decide (i ≥ 2 ^ 63) = false := decide_eq_false (by omega)
    rw [e1, e2] <;> rfl) (by rw [e]; exact hc) ⟨.str ⟨#[c]⟩, H2, I2.tok _, ⟨_, rfl⟩, q⟩) (hs _ _)
/-- b[i], 0 ≤ i < len -/
theorem pe_item_byt (ha : PE X a ta) (hb : PE X b tb) (hs : PlainIxT b) :
    PE X (.Subscript a b pos) (tOp (fun x y H Q => ∃ (z : List UInt8) (i : Int), x = .byt z.toArray ∧ y = .int i ∧ z.length ≤ sizeLine ∧ 0 ≤ i ∧ i < z.length ∧ Q (.int ((z.getD i.toNat 0).toNat : Nat)) H) ta tb) := by
  intro pins s σ H Q I h
  refine Subscript_ (binT ha hb I h fun v u s2 x y H2 I2 rx ry q => ?_)
  obtain ⟨z, i, rfl, rfl, hz, h0, h1, q⟩ := q
  obtain ⟨t, rfl⟩ := rx
  obtain ⟨t', rfl⟩ := ry
  have hl : sizeLine = 16777216 := sizeLine_eq
  exact tail_any (PySem.W.typeIs_bytes s2 z.toArray t) PySem.W.FB.slot_bytes_getitem.lookup (PySem.W.getItem_bytes (by omega) h0 h1 ⟨.int ((z.getD i.toNat 0).toNat : Nat), H2, I2.tok _, ⟨_, rfl⟩, q⟩) (hs _ _)

/-! ### scalar builtins, by CallR -/
theorem vals1 {x : V} {us : List Value} (r : Vals [x] us) : ∃ u, us = [u] ∧ RelV x u := by
  cases r with
  | cons r1 r2 => cases r2; exact ⟨_, rfl, r1⟩
theorem vals2 {x y : V} {us : List Value} (r : Vals [x, y] us) : ∃ u w', us = [u, w'] ∧ RelV x u ∧ RelV y w' := by
  cases r with
  | cons r1 r2 =>
    cases r2 with
    | cons r3 r4 => cases r4; exact ⟨_, _, rfl, r1, r3⟩
theorem call_abs : CallR X (.builtin "abs") (fun xs H Q => ∃ i, xs = [.int i] ∧ Q (.int (if i < 0 then -i else i)) H) := by
  intro pins s σ H xs us Q I r h
  obtain ⟨i, rfl, q⟩ := h
  obtain ⟨u, rfl, t, rfl⟩ := vals1 r
  exact call_abs_int fun u tk => ⟨.int (if i < 0 then -i else i), H, I.tok _, ⟨_, rfl⟩, q⟩
theorem call_max2 (hc : X.calm = true) : CallR X (.builtin "max") (fun xs H Q => ∃ i j, xs = [.int i, .int j] ∧ Q (.int (if j > i then j else i)) H) := by
  intro pins s σ H xs us Q I r h
  obtain ⟨i, j, rfl, q⟩ := h
  obtain ⟨u, w', rfl, ⟨t, rfl⟩, ⟨t', rfl⟩⟩ := vals2 r
  refine max_two_ints (I.ok.hd hc) fun h' tk k => ⟨_, H, I.kept k, ?_, q⟩
  by_cases hj : j > i
  · rw [if_pos hj, if_pos hj]; exact ⟨_, rfl⟩
  · rw [if_neg hj, if_neg hj]; exact ⟨_, rfl⟩
theorem call_min2 (hc : X.calm = true) : CallR X (.builtin "min") (fun xs H Q => ∃ i j, xs = [.int i, .int j] ∧ Q (.int (if j < i then j else i)) H) := by
  intro pins s σ H xs us Q I r h
  obtain ⟨i, j, rfl, q⟩ := h
  obtain ⟨u, w', rfl, ⟨t, rfl⟩, ⟨t', rfl⟩⟩ := vals2 r
  refine min_two_ints (I.ok.hd hc) fun h' tk k => ⟨_, H, I.kept k, ?_, q⟩
  by_cases hj : j < i
  · rw [if_pos hj, if_pos hj]; exact ⟨_, rfl⟩
  · rw [if_neg hj, if_neg hj]; exact ⟨_, rfl⟩
theorem call_int1 : CallR X (.type "int") (fun xs H Q => (∃ i, xs = [.int i] ∧ Q (.int i) H) ∨ ∃ k, xs = [.bl k] ∧ Q (.int (if k then 1 else 0)) H) := by
  intro pins s σ H xs us Q I r h
  rcases h with ⟨i, rfl, q⟩ | ⟨k, rfl, q⟩
  · obtain ⟨u, rfl, t, rfl⟩ := vals1 r
    exact call_int_int ⟨.int i, H, I, ⟨_, rfl⟩, q⟩
  · obtain ⟨u, rfl, r1⟩ := vals1 r
    cases r1
    exact call_int_bool ⟨.int (if k then 1 else 0), H, I.tok _, ⟨_, rfl⟩, q⟩
theorem call_bool1 : CallR X (.type "bool") (fun xs H Q => (∃ i, xs = [.int i] ∧ Q (.bl (i != 0)) H) ∨ ∃ k, xs = [.bl k] ∧ Q (.bl k) H) := by
  intro pins s σ H xs us Q I r h
  rcases h with ⟨i, rfl, q⟩ | ⟨k, rfl, q⟩
  · obtain ⟨u, rfl, t, rfl⟩ := vals1 r
    exact call_bool_int ⟨.bl (i != 0), H, I, rfl, q⟩
  · obtain ⟨u, rfl, r1⟩ := vals1 r
    cases r1
    exact call_bool_bool ⟨.bl k, H, I, rfl, q⟩
theorem call_str_int : CallR X (.type "str") (fun xs H Q => ∃ i, xs = [.int i] ∧ i.natAbs.log2 < 1920 ∧ Q (.str (toString i)) H) := by
  intro pins s σ H xs us Q I r h
  obtain ⟨i, rfl, hz, q⟩ := h
  obtain ⟨u, rfl, t, rfl⟩ := vals1 r
  exact PySem.P.str_of_int hz ⟨.str _, H, I.tok _, ⟨_, rfl⟩, q⟩
theorem call_ord : CallR X (.builtin "ord") (fun xs H Q => ∃ x, xs = [.str x] ∧ x.length = 1 ∧ Q (.int (x.cps.getD 0 0 : Nat)) H) := by
  intro pins s σ H xs us Q I r h
  obtain ⟨x, rfl, hz, q⟩ := h
  obtain ⟨u, rfl, t, rfl⟩ := vals1 r
  exact ord_of_one hz ⟨.int _, H, I.tok _, ⟨_, rfl⟩, q⟩
theorem call_chr : CallR X (.builtin "chr") (fun xs H Q => ∃ i, xs = [.int i] ∧ 0 ≤ i ∧ i ≤ 1114111 ∧ Q (.str ⟨#[i.toNat]⟩) H) := by
  intro pins s σ H xs us Q I r h
  obtain ⟨i, rfl, h0, h1, q⟩ := h
  obtain ⟨u, rfl, t, rfl⟩ := vals1 r
  exact chr_of_range h0 h1 ⟨.str _, H, I.tok _, ⟨_, rfl⟩, q⟩
/-- len of a str, a bytes, a list, a tuple -/
def LenV (K : PySem.W.Frag) (x : V) (H : Hp) (n : Nat) : Prop :=
  match x with
  | .str y => y.length ≤ sizeLine ∧ n = y.length
  | .byt y => y.size ≤ sizeLine ∧ n = y.size
  | .ref p => (∃ xs, SqL K H p xs ∧ n = xs.length) ∨ ∃ xs, SqT K H p xs ∧ n = xs.length
  | _ => False
theorem call_len : CallR X (.builtin "len") (fun xs H Q => ∃ x n, xs = [x] ∧ LenV X.K x H n ∧ Q (.int n) H) := by
  intro pins s σ H xs us Q I r h
  obtain ⟨x, n, rfl, e, q⟩ := h
  obtain ⟨u, rfl, rx⟩ := vals1 r
  have hl := line63
  have hs : sizeLine = 16777216 := sizeLine_eq
  cases x with
  | str y =>
    obtain ⟨t, rfl⟩ := rx
    obtain ⟨hy, e'⟩ : y.length ≤ sizeLine ∧ n = y.length := e
    subst e'
    exact len_str (by omega) ⟨.int _, H, I.tok _, ⟨_, rfl⟩, q⟩
  | byt y =>
    obtain ⟨t, rfl⟩ := rx
    obtain ⟨hy, e'⟩ : y.size ≤ sizeLine ∧ n = y.size := e
    subst e'
    exact PySem.W.len_bytes (by omega) ⟨.int _, H, I.tok _, ⟨_, rfl⟩, q⟩
  | ref p =>
    cases rx
    have e' : (∃ xs, SqL X.K H p xs ∧ n = xs.length) ∨ ∃ xs, SqT X.K H p xs ∧ n = xs.length := e
    rcases e' with ⟨xs, hx, e'⟩ | ⟨xs, hx, e'⟩
    · subst e'
      obtain ⟨its, r', pl, hz⟩ := I.list hx
      have hlen := r'.length
      exact Calls.call_len_list pl.isList (by simp only [List.size_toArray]; omega) ⟨.int xs.length, H, I.tok _, ⟨_, by simp only [List.size_toArray]; rw [hlen]⟩, q⟩
    · subst e'
      obtain ⟨its, r', pl, hz⟩ := I.tuple hx
      have hlen := r'.length
      exact len_tuple pl (by simp only [List.size_toArray]; omega) ⟨.int xs.length, H, I.tok _, ⟨_, by simp only [List.size_toArray]; rw [hlen]⟩, q⟩
  | _ => exact (show False from e).elim
/-- divmod: a new tuple -/
theorem call_divmod : CallR X (.builtin "divmod") (fun xs H Q => ∃ i j, xs = [.int i, .int j] ∧ CDiv i j ∧ ∀ p, H p = none → Q (.ref p) (upd H p (.tup [.int (i / j), .int (i % j)]))) := by
  intro pins s σ H xs us Q I r h
  obtain ⟨i, j, rfl, ⟨h1, h2⟩, q⟩ := h
  obtain ⟨u, w', rfl, ⟨t, rfl⟩, ⟨t', rfl⟩⟩ := vals2 r
  refine divmod_int (by omega) ?_ (.inl (PyProof.noPylong_small (by omega)))
  rw [Int.fdiv_eq_ediv_of_nonneg i (by omega), Int.fmod_eq_emod_of_nonneg i (by omega)]
  have hn : H s.heap.objs.size = none := I.hok.fresh (Nat.le_refl _)
  refine ⟨.ref s.heap.objs.size, _, ?_, rfl, q _ hn⟩
  refine I.laid (fun b o e => Heap.get?_push_of_some _ e) (Nat.le_refl _) ⟨by simp only [List.length_cons, List.length_nil]; rw [sizeLine_eq]; decide, [.int (i / j) s.toks, .int (i % j) (s.toks + 1)], .cons ⟨_, rfl⟩ (.cons ⟨_, rfl⟩ .nil), ?_⟩
  exact ⟨_, Heap.get?_push_size s.heap rfl, rfl, 0, rfl⟩
end
end L2

namespace L2
open PySem PySem.Spec PyProof.Rows

/-! ### an instance, its attributes a map -/
structure ObjM (h : Heap) (x dx C : Addr) (mA : Str → Option Value) : Prop where
  obj : h.get? x = some (PySem.W.instObj C dx)
  ns : h.Ns1 dx mA
  ne : dx ≠ x

theorem lookIn_ns {h : Heap} {dx : Addr} {mA : Str → Option Value} (n : h.Ns1 dx mA) : ∃ od, h.get? dx = some od ∧ ∀ name, PySem.W.lookIn name od = some (mA name) := by
  obtain ⟨o, es, ep, ho, hd, hk, _, hm⟩ := n
  refine ⟨o, ho, fun name => ?_⟩
  have e := hm name
  unfold nsFind findBy at e
  rw [← Array.find?_toList] at e
  unfold PySem.W.lookIn
  rw [hd]
  dsimp only
  split
  · rename_i y q
    rw [q] at e
    exact congrArg some e
  · rename_i q
    rw [q] at e
    have a : es.toList.any (·.refKey) = false := by
      rw [List.any_eq_false]
      intro y hy
      obtain ⟨z, t, hkey⟩ := hk y (Array.mem_toList_iff.mp hy)
      simp [DictEntry.refKey, hkey]
    have a' : ¬ es.toList.any (·.refKey) = true := by rw [a]; exact Bool.false_ne_true
    rw [if_neg a']
    exact congrArg some e

theorem ObjM.look {h : Heap} {x dx C : Addr} {mA : Str → Option Value} (I : ObjM h x dx C mA) : ∃ od, PySem.W.InstAt h x (PySem.W.instObj C dx) C (some od) ∧ ∀ name, PySem.W.lookIn name od = some (mA name) :=
  let ⟨od, ho, hl⟩ := lookIn_ns I.ns
  ⟨od, ⟨I.obj, rfl, rfl, ho⟩, hl⟩

section
variable {prog : Program} {w : World} {A : Around} {E : Value → Shared → Prop} {s : Shared} {K : PySem.W.Frag} {x dx C f : Addr} {mA : Str → Option Value} {name : Str} {v : Value}

theorem get_map {expr : Bool} {Q : Value → Shared → Prop} (X : K.In s.heap) (I : ObjM s.heap x dx C mA) (hg : PySem.W.plainGet K C name = true) (hh : PySem.W.hasDictIn K C = true)
    (ha : PySem.W.findIn K (.ref C) name = some none) (hv : mA name = some v) (hv' : PySem.W.handedIn v = true) (h : Q v { s with toks := s.toks + 1 }) :
    wpAny (model prog w) A (getAttr (.ref x) name expr) Q E s := by
  obtain ⟨od, J, hl⟩ := I.look
  exact PySem.W.get_value X J (PySem.W.plainGet_of hg).1 (PySem.W.findObj_own hh ha rfl (by rw [hl, hv])) hv' h

theorem get_const {expr : Bool} {a : Value} {Q : Value → Shared → Prop} (X : K.In s.heap) (I : ObjM s.heap x dx C mA) (hg : PySem.W.plainGet K C name = true) (hh : PySem.W.hasDictIn K C = true)
    (ha : PySem.W.findIn K (.ref C) name = some (some a)) (hn : PySem.W.specialIn K a "__get__" = some none) (hc : PySem.W.copiedNames.contains name = false) (hv : mA name = none) (hv' : PySem.W.handedIn a = true)
    (h : Q a { s with toks := s.toks + 1 }) : wpAny (model prog w) A (getAttr (.ref x) name expr) Q E s := by
  obtain ⟨od, J, hl⟩ := I.look
  exact PySem.W.get_value X J (PySem.W.plainGet_of hg).1 (PySem.W.findObj_cls hh ha hn hv' hc (by rw [hl, hv])) hv' h

theorem get_meth {pl : Sem Bool} {Q : Value × List Value → Shared → Prop} (X : K.In s.heap) (I : ObjM s.heap x dx C mA) (hg : PySem.W.plainGet K C name = true)
    (hf : PySem.W.findIn K (.ref C) name = some (some (.ref f))) (ht : PySem.W.isFn K (.ref f) = true) (hv : mA name = none) (h : Q (.ref f, [.ref x]) s) :
    wpAny (model prog w) A (getMethod (.ref x) name pl) Q E s := by
  obtain ⟨od, J, hl⟩ := I.look
  exact PySem.W.method_fn X J (PySem.W.plainGet_of hg).1 (PySem.W.plainGet_of hg).2 hf (beq_iff_eq.mp ht) (by show (PySem.W.lookIn name od).map (·.isSome) = some false; rw [hl, hv]; rfl) h

theorem set_map {ns : List Str} {Q : Unit → Shared → Prop} (X : K.In s.heap) (I : ObjM s.heap x dx C mA)
    (hs : PySem.W.findIn K (.ref C) "__setattr__" = some (some (.builtin "object.__setattr__"))) (hp : PySem.W.plainOver K C = true) (ht : PySem.W.takerIn K C name = some none) (hh : PySem.W.hasDictIn K C = true)
    (hw : PySem.Within mA ns) (hsz : ns.length ≤ sizeLine)
    (h : ∀ h', ObjM h' x dx C (fun y => if y = name then some v else mA y) → Heap.SameBut dx s.heap h' → Q () { s with heap := h', toks := s.toks + 2 }) :
    wpAny (model prog w) A (setAttr (.ref x) name v) Q E s := by
  obtain ⟨od, J, hl⟩ := I.look
  refine PySem.W.set_plain X J hs (PySem.W.osa_open (s := { s with toks := s.toks + 1 }) (r := none) X J hp ht fun b => ?_)
  obtain ⟨cd, hc, hd'⟩ := PySem.W.any_some hh
  have hx : s.heap.get? x = some ⟨.ref C, some dx, .plain, #[]⟩ := I.obj
  refine wpAny_bind (wpAny_pure (wpAny_bind (wpAny_bind (wpAny_loadPart hx (wpAny_bind (PySem.W.Looks.here (s := { s with toks := s.toks + 1 }) (PySem.W.looks_clsIn X hc) ?_))))))
  rw [hd']
  refine wpAny_pure (a := some dx) (wpAny_bind (wpAny_pure (wpAny_bind ?_)))
  refine wpAny_nsSet1 (s := { s with toks := s.toks + 1 }) I.ns fun h' hn2 hs2 => ?_
  obtain ⟨oD, esD, epD, hoD, hdD, hcD⟩ := hn2.count (PySem.Within.cons name v hw)
  refine wpAny_bind (wpAny_lookBehind hoD (by rw [hdD]; exact pastItsLine_dict (Nat.le_trans hcD (by rw [List.length_cons]; omega))) ?_)
  exact wpAny_pure (h _ ⟨(hs2.2 _ (Ne.symm I.ne)).trans I.obj, hn2, I.ne⟩ hs2)

/-- C(..): the dict at the heap's end, the instance behind it; then its __init__ -/
theorem make_map {R : Result → Shared → Prop} {vs : List Value} {kw : List (Str × Value)} (X : K.In s.heap) (hm : PySem.W.makesIn K C = true)
    (hi : PySem.W.findIn K (.ref C) "__init__" = some (some (.ref f))) (hf : PySem.W.typeIn K (.ref f) = some (.type "function"))
    (h : codeAny (model prog w) (A.under (.builtin "type.__call__" ⟨.ref C :: vs, kw⟩)) (.call (.ref f) ⟨.ref (s.heap.objs.size + 1) :: vs, kw⟩) (PySem.W.InitBack (s.heap.objs.size + 1) R)
      { s with heap := (s.heap.push PySem.W.emptyDict).push (PySem.W.instObj C s.heap.objs.size) }) :
    codeAny (model prog w) A (.call (.ref C) ⟨vs, kw⟩) R s := by
  obtain ⟨hh, g, d, t, os⟩ := s
  exact PySem.W.make_core (PySem.W.makes_of X hm) (PySem.W.looks_findIn X hi) (fun self => PySem.W.bind_fn X self hf) (.inl rfl) h
/-- C() where there is no __init__ but object's -/
theorem make_map0 {R : Result → Shared → Prop} (X : K.In s.heap) (hm : PySem.W.makesIn K C = true)
    (hi : PySem.W.findIn K (.ref C) "__init__" = some (some (.builtin "object.__init__")))
    (hb : ∀ self, PySem.W.Looks (model prog w) s.heap (bindSpecial (.builtin "object.__init__") self) (.builtin "object.__init__", [self]))
    (h : codeAny (model prog w) (A.under (.builtin "type.__call__" ⟨[.ref C], []⟩)) (.call (.builtin "object.__init__") ⟨[.ref (s.heap.objs.size + 1)], []⟩) (PySem.W.InitBack (s.heap.objs.size + 1) R)
      { s with heap := (s.heap.push PySem.W.emptyDict).push (PySem.W.instObj C s.heap.objs.size) }) :
    codeAny (model prog w) A (.call (.ref C) ⟨[], []⟩) R s := by
  obtain ⟨hh, g, d, t, os⟩ := s
  exact PySem.W.make_core (PySem.W.makes_of X hm) (PySem.W.looks_findIn X hi) hb (.inr ⟨rfl, rfl⟩) h
end

/-! ### the attributes as a list of pairs -/
def putF (f : Str) (v : V) : List (Str × V) → List (Str × V)
  | [] => [(f, v)]
  | (g, x) :: r => if g = f then (g, v) :: r else (g, x) :: putF f v r
theorem lookup_putF (f g : Str) (v : V) : ∀ fs : List (Str × V), (putF f v fs).lookup g = if g = f then some v else fs.lookup g
  | [] => by
    show List.lookup g [(f, v)] = _
    by_cases h : g = f
    · have hb : (g == f) = true := beq_iff_eq.mpr h
      simp only [List.lookup, hb, if_pos h]
    · have hb : (g == f) = false := beq_eq_false_iff_ne.mpr h
      simp only [List.lookup, hb, if_neg h]
  | (k, x) :: r => by
    have ih := lookup_putF f g v r
    rw [show putF f v ((k, x) :: r) = (if k = f then (k, v) :: r else (k, x) :: putF f v r) from rfl]
    by_cases hk : k = f
    · rw [if_pos hk]
      by_cases h : g = k
      · have hb : (g == k) = true := beq_iff_eq.mpr h
        simp only [List.lookup, hb, if_pos (h.trans hk)]
      · have hb : (g == k) = false := beq_eq_false_iff_ne.mpr h
        simp only [List.lookup, hb, if_neg (fun e : g = f => h (e.trans hk.symm))]
    · rw [if_neg hk]
      by_cases h : g = k
      · have hb : (g == k) = true := beq_iff_eq.mpr h
        simp only [List.lookup, hb, if_neg (fun e : g = f => hk (h.symm.trans e))]
      · have hb : (g == k) = false := beq_eq_false_iff_ne.mpr h
        simp only [List.lookup, hb]
        exact ih
theorem keys_putF (f : Str) (v : V) : ∀ fs : List (Str × V), f ∈ (putF f v fs).map (·.1) ∧ ∀ g, g ∈ fs.map (·.1) → g ∈ (putF f v fs).map (·.1)
  | [] => ⟨by simp [putF], fun g h => by simp at h⟩
  | (k, x) :: r => by
    obtain ⟨i1, i2⟩ := keys_putF f v r
    rw [show putF f v ((k, x) :: r) = (if k = f then (k, v) :: r else (k, x) :: putF f v r) from rfl]
    by_cases hk : k = f
    · rw [if_pos hk]
      subst hk
      exact ⟨by simp, fun g h => by simpa using h⟩
    · rw [if_neg hk]
      refine ⟨?_, fun g h => ?_⟩
      · rw [List.map_cons]
        exact List.mem_cons_of_mem _ i1
      · rw [List.map_cons] at h ⊢
        rcases List.mem_cons.mp h with e | e
        · exact List.mem_cons.mpr (.inl e)
        · exact List.mem_cons_of_mem _ (i2 g e)
theorem length_putF (f : Str) (v : V) : ∀ fs : List (Str × V), (putF f v fs).length ≤ fs.length + 1
  | [] => by simp [putF]
  | (k, x) :: r => by
    have ih := length_putF f v r
    rw [show putF f v ((k, x) :: r) = (if k = f then (k, v) :: r else (k, x) :: putF f v r) from rfl]
    by_cases hk : k = f
    · rw [if_pos hk, List.length_cons, List.length_cons]; omega
    · rw [if_neg hk, List.length_cons, List.length_cons]; omega

theorem RelO.some_of {v : V} {o : Option Value} (r : RelO (some v) o) : ∃ u, o = some u ∧ RelV v u := by
  cases o with
  | none => exact (show False from r).elim
  | some u => exact ⟨u, rfl, r⟩
theorem RelO.none_of {o : Option Value} (r : RelO none o) : o = none := by
  cases o with
  | none => rfl
  | some u => exact (show False from r).elim
theorem handed_of {v : V} {u : Value} (r : RelV v u) : PySem.W.handedIn u = true := by
  cases v with
  | non => cases (show u = Value.none from r); rfl
  | bl b => cases (show u = Value.bool b from r); rfl
  | int i => obtain ⟨t, e⟩ := (show ∃ t, u = Value.int i t from r); cases e; rfl
  | str x => obtain ⟨t, e⟩ := (show ∃ t, u = Value.str x t from r); cases e; rfl
  | byt b => obtain ⟨t, e⟩ := (show ∃ t, u = Value.bytes b t from r); cases e; rfl
  | flt b => obtain ⟨t, e⟩ := (show ∃ t, u = Value.float b t from r); cases e; rfl
  | ref a => cases (show u = Value.ref a from r); rfl
  | ty n => cases (show u = Value.type n from r); rfl

section
variable {P : Program} {w : World} {H H' : Hp} {h h' : Heap} {a C dx : Addr} {fs fs' : List (Str × V)}
theorem ins_get (hok : HOk P w H h) (e : H a = some (.ins C dx fs)) : ∃ mA, ObjM h a dx C mA ∧ (∀ f, RelO (fs.lookup f) (mA f)) ∧ PySem.Within mA (fs.map (·.1)) ∧ fs.length ≤ 1000 ∧ H dx = some (.own a) := by
  obtain ⟨d, z, ne, ob, mA, n, r, q⟩ := (show ObjOk P w H h a (.ins C dx fs) from hok a _ e)
  exact ⟨mA, ⟨ob, n, ne⟩, r, q, z, d⟩
end

/-! ### what of the text a class must have -/
structure Cls (K : PySem.W.Frag) (C : Addr) : Prop where
  pg : PySem.W.plainGet K C Str.empty = true
  hd : PySem.W.hasDictIn K C = true
  po : PySem.W.plainOver K C = true
  sa : PySem.W.findIn K (.ref C) "__setattr__" = some (some (.builtin "object.__setattr__"))
theorem Cls.get {K : PySem.W.Frag} {C : Addr} (c : Cls K C) (f : Str) : PySem.W.plainGet K C f = true := c.pg
/-- no class of it has the name -/
def NoAttr (K : PySem.W.Frag) (C : Addr) (f : Str) : Prop := PySem.W.findIn K (.ref C) f = some none
theorem NoAttr.taker {K : PySem.W.Frag} {C : Addr} {f : Str} (n : NoAttr K C f) : PySem.W.takerIn K C f = some none := by
  unfold PySem.W.takerIn
  rw [show PySem.W.findIn K (.ref C) f = some none from n]
  rfl
/-- a constant of the class -/
structure Con (K : PySem.W.Frag) (C : Addr) (f : Str) (v : V) (u : Value) : Prop where
  at_ : PySem.W.findIn K (.ref C) f = some (some u)
  rel : RelV v u
  get : PySem.W.specialIn K u "__get__" = some none
  cp : PySem.W.copiedNames.contains f = false
/-- a method: a plain def of the class or of one above it -/
structure Meth (K : PySem.W.Frag) (C : Addr) (m : Str) (f : Addr) : Prop where
  at_ : PySem.W.findIn K (.ref C) m = some (some (.ref f))
  fn : PySem.W.isFn K (.ref f) = true
  kp : PySem.W.keepIn K (.ref f) = true

section
variable {X : Cx} {pins : List (Addr × Obj)} {σ : St} {H : Hp} {s : Shared} {a C dx : Addr} {fs : List (Str × V)} {f : Str} {v : V} {A : Around} {E : Value → Shared → Prop}

theorem getattr_ok {b : Bool} {Q : Value → Shared → Prop} (I : Inv X pins σ H s) (e : H a = some (.ins C dx fs)) (c : Cls X.K C) (n : NoAttr X.K C f) (l : fs.lookup f = some v)
    (h : ∀ u s', Inv X pins σ H s' → RelV v u → Q u s') : wpAny (model X.prog X.w) A (getAttr (.ref a) f b) Q E s := by
  obtain ⟨mA, O, r, _, _, _⟩ := ins_get I.hok e
  obtain ⟨u, hu, ru⟩ := RelO.some_of (v := v) (o := mA f) (by rw [← l]; exact r f)
  exact get_map I.kIn O (c.get f) c.hd n hu (handed_of ru) (h u _ (I.tok _) ru)

theorem getcon_ok {b : Bool} {u : Value} {Q : Value → Shared → Prop} (I : Inv X pins σ H s) (e : H a = some (.ins C dx fs)) (c : Cls X.K C) (k : Con X.K C f v u) (l : fs.lookup f = none)
    (h : ∀ s', Inv X pins σ H s' → Q u s') : wpAny (model X.prog X.w) A (getAttr (.ref a) f b) Q E s := by
  obtain ⟨mA, O, r, _, _, _⟩ := ins_get I.hok e
  have hn : mA f = none := RelO.none_of (by rw [← l]; exact r f)
  exact get_const I.kIn O (c.get f) c.hd k.at_ k.get k.cp hn (handed_of k.rel) (h _ (I.tok _))

theorem getmeth_ok {m : Str} {g : Addr} {pl : Sem Bool} {Q : Value × List Value → Shared → Prop} (I : Inv X pins σ H s) (e : H a = some (.ins C dx fs)) (c : Cls X.K C) (k : Meth X.K C m g) (l : fs.lookup m = none)
    (h : Q (.ref g, [.ref a]) s) : wpAny (model X.prog X.w) A (getMethod (.ref a) m pl) Q E s := by
  obtain ⟨mA, O, r, _, _, _⟩ := ins_get I.hok e
  have hn : mA m = none := RelO.none_of (by rw [← l]; exact r m)
  exact get_meth I.kIn O (c.get m) k.at_ k.fn hn h

theorem setattr_ok {y : V} {u : Value} {Q : Unit → Shared → Prop} (I : Inv X pins σ H s) (e : H a = some (.ins C dx fs)) (c : Cls X.K C) (n : NoAttr X.K C f) (hl : fs.length < 1000) (ry : RelV y u)
    (h : ∀ s', Inv X pins σ (upd H a (.ins C dx (putF f y fs))) s' → Q () s') : wpAny (model X.prog X.w) A (setAttr (.ref a) f u) Q E s := by
  obtain ⟨mA, O, r, wi, _, ho⟩ := ins_get I.hok e
  have hz : (fs.map (·.1)).length ≤ sizeLine := by rw [List.length_map, sizeLine_eq]; omega
  refine set_map I.kIn O c.sa c.po n.taker c.hd wi hz fun h' O' sb => h _ ?_
  have hd : ∃ o, h'.get? dx = some o := let ⟨o, _, _, e', _⟩ := O'.ns; ⟨o, e'⟩
  refine I.write (x := a) (e := dx) (by rw [e]; exact True.intro) (.inr ho) (fun b q hb z => (sb.2 b hb).trans z) hd ?_
  refine ⟨by rw [upd_ne O.ne]; exact ho, ?_, O.ne, O'.obj, _, O'.ns, fun g => ?_, fun g hg => ?_⟩
  · have := length_putF f y fs; omega
  · show RelO ((putF f y fs).lookup g) (if g = f then some u else mA g)
    rw [lookup_putF]
    by_cases q : g = f
    · rw [if_pos q, if_pos q]; exact ry
    · rw [if_neg q, if_neg q]; exact r g
  · by_cases q : g = f
    · rw [q]; exact (keys_putF f y fs).1
    · refine (keys_putF f y fs).2 g (wi g fun z => hg ?_)
      show (if g = f then some u else mA g) = none
      rw [if_neg q]; exact z

/-- a new instance, tracked, without attributes -/
theorem Inv.made (I : Inv X pins σ H s) : Inv X pins σ (upd (upd H s.heap.objs.size (.own (s.heap.objs.size + 1))) (s.heap.objs.size + 1) (.ins C s.heap.objs.size []))
    { s with heap := (s.heap.push PySem.W.emptyDict).push (PySem.W.instObj C s.heap.objs.size) } := by
  have e1 : (s.heap.push PySem.W.emptyDict).get? s.heap.objs.size = some PySem.W.emptyDict := Heap.get?_push_size s.heap rfl
  have e2 : ((s.heap.push PySem.W.emptyDict).push (PySem.W.instObj C s.heap.objs.size)).get? (s.heap.objs.size + 1) = some (PySem.W.instObj C s.heap.objs.size) := by
    have := Heap.get?_push_size (s.heap.push PySem.W.emptyDict) (o := PySem.W.instObj C s.heap.objs.size) rfl
    rwa [Heap.size_push] at this
  have e3 : (s.heap.push PySem.W.emptyDict).Ns s.heap.objs.size (fun _ => none) := ⟨PySem.W.emptyDict, #[], _, e1, rfl, (fun e he => absurd he (by simp)), fun _ => rfl⟩
  have I1 := I.laid (a := s.heap.objs.size) (o := .own (s.heap.objs.size + 1)) (h' := s.heap.push PySem.W.emptyDict) (t' := s.toks) (fun b u q => Heap.get?_push_of_some _ q) (Nat.le_refl _) ⟨_, e1⟩
  refine I1.laid (a := s.heap.objs.size + 1) (o := .ins C s.heap.objs.size []) (t' := s.toks) (fun b u q => Heap.get?_push_of_some _ q) (Nat.le_of_eq (Heap.size_push _ _)) ?_
  have ne : s.heap.objs.size ≠ s.heap.objs.size + 1 := Nat.ne_of_lt (Nat.lt_succ_self _)
  refine ⟨by rw [upd_ne ne, upd_same], Nat.zero_le _, ne, e2, fun _ => none, (Heap.Ns1.of_empty e3).at fun o q => Heap.get?_push_of_some _ q, fun _ => True.intro, fun y hy => absurd rfl hy⟩

/-- e.f where nothing but the object is asked: through attributeBase (super) and the last hold -/
theorem attr_of {prog : Program} {w : World} {env : Env} {e : Expr} {f : Str} {pos : Pos} {s : Shared} {Q : Value → Shared → Prop} (hb : attributeBase e f env (eval e env) = eval e env)
    (h : wpAny (model prog w) A (eval e env) (fun o s₁ => wpAny (model prog w) A (getAttr o f true) Q E s₁) E s) : wpAny (model prog w) A (eval (.Attribute e f pos) env) Q E s :=
  Attribute_any_ h (by rw [arm_eval_Attribute, hb])
end

/-! ### readings and rules -/
/-- e.f, an attribute of the instance -/
def tFld (K : PySem.W.Frag) (ta : TE) (f : Str) : TE := fun σ H Q => ta σ H fun x H1 => ∃ a C dx fs v, x = .ref a ∧ H1 a = some (.ins C dx fs) ∧ Cls K C ∧ NoAttr K C f ∧ fs.lookup f = some v ∧ Q v H1
/-- e.f, a constant of the class -/
def tCon (K : PySem.W.Frag) (ta : TE) (f : Str) : TE := fun σ H Q => ta σ H fun x H1 => ∃ a C dx fs v u, x = .ref a ∧ H1 a = some (.ins C dx fs) ∧ Cls K C ∧ Con K C f v u ∧ fs.lookup f = none ∧ Q v H1
/-- e.f = value -/
def sFld (K : PySem.W.Frag) (ta tv : TE) (f : Str) : TS := fun D σ H => tv σ H fun y H1 => ta σ H1 fun x H2 => ∃ a C dx fs, x = .ref a ∧ H2 a = some (.ins C dx fs) ∧ Cls K C ∧ NoAttr K C f ∧ fs.length < 1000 ∧
  D.nx σ (upd H2 a (.ins C dx (putF f y fs)))
/-- an augmented operator on two values -/
def InOp (X : Cx) (op : Operator) (rd : V → V → Hp → VK → Prop) : Prop :=
  ∀ (pins : List (Addr × Obj)) (s : Shared) (σ : St) (H : Hp) (x y : V) (u v : Value) (Q : VK), Inv X pins σ H s → RelV x u → RelV y v → rd x y H Q → wpAny (model X.prog X.w) X.A (inplaceOp op u v) (EP X pins σ Q) X.xe s
/-- e.f op= value -/
def sFldAug (K : PySem.W.Frag) (ta tv : TE) (rd : V → V → Hp → VK → Prop) (f : Str) : TS := fun D σ H => ta σ H fun x H1 => ∃ a C dx fs v, x = .ref a ∧ H1 a = some (.ins C dx fs) ∧ Cls K C ∧ NoAttr K C f ∧ fs.lookup f = some v ∧
  tv σ H1 fun y H2 => rd v y H2 fun z H3 => ∃ dx' fs', H3 a = some (.ins C dx' fs') ∧ fs'.length < 1000 ∧ D.nx σ (upd H3 a (.ins C dx' (putF f z fs')))

section
variable {X : Cx} {o e value : Expr} {f : Str} {pos pos' tpos : Pos} {ta tv : TE}
theorem pe_fld (he : PE X e ta) (hb : attributeBase e f X.env (eval e X.env) = eval e X.env) : PE X (.Attribute e f pos) (tFld X.K ta f) := by
  intro pins s σ H Q I h
  refine attr_of hb (thn (he pins s σ H _ I h) fun u s1 ⟨x, H1, I1, rx, a, C, dx, fs, v, ex, ea, c, n, l, q⟩ => ?_)
  subst ex
  obtain rfl : u = Value.ref a := rx
  exact getattr_ok I1 ea c n l fun u' s2 I2 ru => ⟨v, H1, I2, ru, q⟩
theorem pe_con (he : PE X e ta) (hb : attributeBase e f X.env (eval e X.env) = eval e X.env) : PE X (.Attribute e f pos) (tCon X.K ta f) := by
  intro pins s σ H Q I h
  refine attr_of hb (thn (he pins s σ H _ I h) fun u s1 ⟨x, H1, I1, rx, a, C, dx, fs, v, u0, ex, ea, c, k, l, q⟩ => ?_)
  subst ex
  obtain rfl : u = Value.ref a := rx
  exact getcon_ok I1 ea c k l fun s2 I2 => ⟨v, H1, I2, k.rel, q⟩
theorem ps_fld (ha : PE X o ta) (hv : PE X value tv) (hs : swapsWith value (some (.Attribute o f pos')) pos.line X.env = pure false) : PS X (.Assign [.Attribute o f pos'] value pos) (sFld X.K ta tv f) := by
  intro pins s σ H D I h
  refine plainObj_wpAny_Assign_Attribute (thn (hv pins s σ H _ I h) fun u s1 ⟨y, H1, I1, ry, q⟩ => thn (ha pins s1 σ H1 _ I1 q) fun ov s2 ⟨x, H2, I2, rx, a, C, dx, fs, ex, ea, c, n, l, q2⟩ => ?_) hs
  subst ex
  obtain rfl : ov = Value.ref a := rx
  exact setattr_ok I2 ea c n l ry fun s3 I3 => ⟨σ, _, I3, q2⟩
theorem ps_fldaug {op : Operator} {rd : V → V → Hp → VK → Prop} (ha : PE X o ta) (hv : PE X value tv) (hop : InOp X op rd) : PS X (.AugAssign (.Attribute o f tpos) op value pos) (sFldAug X.K ta tv rd f) := by
  intro pins s σ H D I h
  refine wpAny_AugAssign_AttributeAny (thn (ha pins s σ H _ I h) fun ov s1 ⟨x, H1, I1, rx, a, C, dx, fs, v, ex, ea, c, n, l, q⟩ => ?_)
  subst ex
  obtain rfl : ov = Value.ref a := rx
  refine getattr_ok I1 ea c n l fun u s2 I2 ru => thn (hv pins s2 σ H1 _ I2 q) fun w3 s3 ⟨y, H2, I3, ry, q3⟩ => thn (hop pins s3 σ H2 v y u w3 _ I3 ru ry q3) fun w4 s4 ⟨z, H3, I4, rz, dx', fs', ea', l', q4⟩ => ?_
  exact setattr_ok I4 ea' c n l' rz fun s5 I5 => ⟨σ, _, I5, q4⟩
def rAdd : V → V → Hp → VK → Prop := fun x y H Q => ∃ i j, x = .int i ∧ y = .int j ∧ Q (.int (i + j)) H
def rSub : V → V → Hp → VK → Prop := fun x y H Q => ∃ i j, x = .int i ∧ y = .int j ∧ Q (.int (i - j)) H
theorem in_add : InOp X .Add rAdd := by
  rintro pins s σ H x y u v Q I rx ry ⟨i, j, rfl, rfl, q⟩
  obtain ⟨t, rfl⟩ := (show ∃ t, u = Value.int i t from rx)
  obtain ⟨t', rfl⟩ := (show ∃ t', v = Value.int j t' from ry)
  exact PyProof.Rows.iadd_int ⟨.int (i + j), H, I.tok _, ⟨_, rfl⟩, q⟩
theorem in_sub : InOp X .Sub rSub := by
  rintro pins s σ H x y u v Q I rx ry ⟨i, j, rfl, rfl, q⟩
  obtain ⟨t, rfl⟩ := (show ∃ t, u = Value.int i t from rx)
  obtain ⟨t', rfl⟩ := (show ∃ t', v = Value.int j t' from ry)
  exact PyProof.Rows.isub_int ⟨.int (i - j), H, I.tok _, ⟨_, rfl⟩, q⟩

/-- what is between an instance and its method: the tree of a method call -/
theorem methcall_of {pl : Sem Bool} {m : Str} {apos : Pos} {args : List Expr} {pins : List (Addr × Obj)} {s : Shared} {σ : St} {H : Hp} {Q : Value → Shared → Prop} {te : TE} (he : PE X e te) (I : Inv X pins σ H s)
    (h : te σ H fun x H1 => ∃ a C dx fs g, x = .ref a ∧ H1 a = some (.ins C dx fs) ∧ Cls X.K C ∧ Meth X.K C m g ∧ fs.lookup m = none ∧
      ∀ s1, Inv X pins σ H1 s1 → wpAny (model X.prog X.w) X.A (callWith pos (.ref g) [.ref a] (backTo pos (starEach args X.env)) (backToKw pos (keywordEach [] X.env))) Q X.xe s1)
    (ht : eval (.Call (.Attribute e m apos) args [] pos) X.env = (do
      let ov ← eval e X.env
      standAt apos.atName
      let (f, first) ← holding [ov] (getMethod ov m pl)
      callWith pos f first (backTo pos (starEach args X.env)) (backToKw pos (keywordEach [] X.env)))) :
    wpAny (model X.prog X.w) X.A (eval (.Call (.Attribute e m apos) args [] pos) X.env) Q X.xe s := by
  refine PySem.W.methodCall_KW (pl := pl) (thn (he pins s σ H _ I h) fun u s1 ⟨x, H1, I1, rx, a, C, dx, fs, g, ex, ea, c, k, l, q⟩ => ?_) ht
  subst ex
  obtain rfl : u = Value.ref a := rx
  exact getmeth_ok I1 ea c k l (q s1 I1)
end

/-! ### isinstance -/
section
variable {X : Cx} {pins : List (Addr × Obj)} {σ : St} {H : Hp} {s : Shared} {A : Around} {E : Value → Shared → Prop} {Q : Value → Shared → Prop} {c : Value} {b : Bool}
/-- the type of a value, as the fragment's deciders take it; for an instance its class -/
inductive TyOf (K : PySem.W.Frag) (H : Hp) : V → Value → Prop where
  | non : TyOf K H .non (.type "NoneType")
  | bl (x : Bool) : TyOf K H (.bl x) (.type "bool")
  | int (i : Int) : TyOf K H (.int i) (.type "int")
  | str (x : Str) : TyOf K H (.str x) (.type "str")
  | flt (x : UInt64) : TyOf K H (.flt x) (.type "float")
  | lst {a : Addr} {xs : List V} (e : H a = some (.lst xs)) : TyOf K H (.ref a) (.type "list")
  | frz {a : Addr} {o : Obj} {xs : List V} (e : H a = some (.frz o (.lst xs))) : TyOf K H (.ref a) (.type "list")
  | tup {a : Addr} {xs : List V} (e : H a = some (.tup xs)) : TyOf K H (.ref a) (.type "tuple")
  | dK {a : Addr} {kvs : List (Key × V)} (e : H a = some (.dK kvs)) : TyOf K H (.ref a) (.type "dict")
  | dT {a : Addr} {kvs : List (List Key × V)} (e : H a = some (.dT kvs)) : TyOf K H (.ref a) (.type "dict")
  | ins {a C dx : Addr} {fs : List (Str × V)} (e : H a = some (.ins C dx fs)) (cl : Cls K C) (ha : PySem.W.findIn K (.ref C) "__class__" = some (some (.builtin "object.__class__")))
      (hn : PySem.W.specialIn K (.builtin "object.__class__") "__get__" = some (some (.builtin "getset_descriptor.__get__"))) (htk : PySem.W.takesIn K (.builtin "object.__class__") = some true)
      (hm : PySem.W.mroIn K C (.type "object") = some true) : TyOf K H (.ref a) (.ref C)
/-- isinstance(x, c) for one class c, a built-in or an own one: kitOne's answer -/
theorem isinst_ok {x : V} {u t : Value} (I : Inv X pins σ H s) (rx : RelV x u) (ty : TyOf X.K H x t) (e : PySem.W.kitOne X.K t c = some b) (h : ∀ tk, Q (.bool b) { s with toks := tk }) :
    wpAny (model X.prog X.w) A (call (.builtin "isinstance") [u, c]) Q E s := by
  cases ty with
  | non => cases (show u = Value.none from rx); exact PySem.W.kia_one PySem.W.kitx_none I.kIn True.intro e (fun z => nomatch z) h
  | bl y => cases (show u = Value.bool y from rx); exact PySem.W.kia_one PySem.W.kitx_bool I.kIn True.intro e (fun z => nomatch z) h
  | int i => obtain ⟨t, q⟩ := (show ∃ t, u = Value.int i t from rx); cases q; exact PySem.W.kia_one PySem.W.kitx_int I.kIn True.intro e (fun z => nomatch z) h
  | str y => obtain ⟨t, q⟩ := (show ∃ t, u = Value.str y t from rx); cases q; exact PySem.W.kia_one PySem.W.kitx_str I.kIn True.intro e (fun z => nomatch z) h
  | flt y => obtain ⟨t, q⟩ := (show ∃ t, u = Value.float y t from rx); cases q; exact PySem.W.kia_one PySem.W.kitx_float I.kIn True.intro e (fun z => nomatch z) h
  | @lst a xs ea =>
    cases (show u = Value.ref a from rx)
    obtain ⟨_, _, n, _, h1⟩ := (show ObjOk X.prog X.w H s.heap a (.lst xs) from I.hok a _ ea)
    exact PySem.W.kia_one PySem.W.kitx_list I.kIn ⟨_, h1, rfl⟩ e (fun z => nomatch z) h
  | @frz a ob xs ea =>
    cases (show u = Value.ref a from rx)
    obtain ⟨_, _, _, n, _, h1⟩ := (show ObjOk X.prog X.w H s.heap a (.frz ob (.lst xs)) from I.hok a _ ea)
    exact PySem.W.kia_one PySem.W.kitx_list I.kIn ⟨_, h1, rfl⟩ e (fun z => nomatch z) h
  | @tup a xs ea =>
    cases (show u = Value.ref a from rx)
    obtain ⟨_, _, _, p⟩ := (show ObjOk X.prog X.w H s.heap a (.tup xs) from I.hok a _ ea)
    obtain ⟨o, h1, h2, _⟩ := p
    exact PySem.W.kia_one PySem.W.kitx_tuple I.kIn ⟨o, h1, h2⟩ e (fun z => nomatch z) h
  | @dK a kvs ea =>
    cases (show u = Value.ref a from rx)
    obtain ⟨_, _, vs, _, p⟩ := (show ObjOk X.prog X.w H s.heap a (.dK kvs) from I.hok a _ ea)
    obtain ⟨o, es, ep, h1, h2, _⟩ := p
    exact PySem.W.kia_one PySem.W.kitx_dict I.kIn ⟨o, h1, h2.1⟩ e (fun z => nomatch z) h
  | @dT a kvs ea =>
    cases (show u = Value.ref a from rx)
    obtain ⟨_, _, xs, _, o, es, ep, h1, h2, _⟩ := (show ObjOk X.prog X.w H s.heap a (.dT kvs) from I.hok a _ ea)
    exact PySem.W.kia_one PySem.W.kitx_dict I.kIn ⟨o, h1, h2.1⟩ e (fun z => nomatch z) h
  | @ins a C dx fs ea cl ha hn htk hm =>
    cases (show u = Value.ref a from rx)
    obtain ⟨mA, O, _⟩ := ins_get I.hok ea
    obtain ⟨od, J, _⟩ := O.look
    exact PySem.W.kia_one (PySem.W.kitx_own (cl.get _) cl.hd ha hn htk hm) I.kIn J e (fun z => nomatch z) h
end
end L2

namespace L2
open PySem PySem.Spec PyProof.Rows

/-! ### room -/
structure Room (k : Nat) (A : Around) : Prop where
  hd : A.handled = none
  dp : A.depth + 3 * k + 5 < recursionLimit
  un : A.units + 16 * k + 200 < cLine
theorem Room.mono {j k : Nat} {A : Around} (r : Room k A) (h : j ≤ k) : Room j A := ⟨r.hd, by have := r.dp; omega, by have := r.un; omega⟩
theorem Room.deeper {k : Nat} {A : Around} (r : Room (k + 1) A) (env : Env) : Room k (A.deeper env) :=
  ⟨r.hd, by have := r.dp; show A.depth + 1 + 3 * k + 5 < _; omega, by have := r.un; show A.units + 3 + 16 * k + 200 < _; omega⟩
theorem Room.in1 {k : Nat} {A : Around} (r : Room (k + 1) A) : Room k A.in1 :=
  ⟨r.hd, by have := r.dp; show A.depth + 3 * k + 5 < _; omega, by have := r.un; show A.units + 1 + 16 * k + 200 < _; omega⟩
theorem make_depth {A : Around} {C : Addr} {us : List Value} {kw : List (Str × Value)} : (A.under (.builtin "type.__call__" ⟨.ref C :: us, kw⟩)).depth = A.depth + 1 := by
  first | rfl | simp [Around.under, Code.weight, Code.isCreation, Code.isGuard, Code.isCaller, Code.frames, Code.isFrame, guardIds]
theorem make_units {A : Around} {C : Addr} {us : List Value} {kw : List (Str × Value)} : (A.under (.builtin "type.__call__" ⟨.ref C :: us, kw⟩)).units = A.units + 1 := by
  first | rfl | simp [Around.under, Code.cUnits, Code.frames, Code.isFrame]
theorem Room.make {k : Nat} {A : Around} (r : Room (k + 1) A) (C : Addr) (us : List Value) (kw : List (Str × Value)) : Room k (A.under (.builtin "type.__call__" ⟨.ref C :: us, kw⟩)) :=
  ⟨r.hd, by have := r.dp; rw [make_depth]; omega, by have := r.un; rw [make_units]; omega⟩
theorem Room.depth {k : Nat} {A : Around} (r : Room k A) : A.depth < recursionLimit := by have := r.dp; omega
theorem Room.units {k : Nat} {A : Around} (r : Room k A) : A.units + 64 < cLine := by have := r.un; omega
theorem Room.units0 {k : Nat} {A : Around} (r : Room k A) : A.units < cLine := by have := r.un; omega

/-! ### argument lists and displays -/
def tNil : TA := fun _ H Q => Q [] H
def tCons (ta : TE) (tr : TA) : TA := fun σ H Q => ta σ H fun x H1 => tr σ H1 fun xs H2 => Q (x :: xs) H2
section
variable {X : Cx} {e : Expr} {es : List Expr} {te : TE} {t : TA} {pos : Pos}
theorem pa_nil : PA X [] tNil := fun _ _ _ _ H Q I h => Calls.spliced_nil ⟨[], H, I, .nil, h⟩
theorem pa_cons (ha : PE X e te) (hr : PA X es t) (hs : starEach (e :: es) X.env = (false, eval e X.env) :: starEach es X.env := by rfl) : PA X (e :: es) (tCons te t) := by
  intro pos pins s σ H Q I h
  rw [hs]
  show wpAny _ _ (spliced ((false, eval e X.env) :: backTo pos (starEach es X.env))) _ _ s
  refine Calls.spliced_cons (thn (ha pins s σ H _ I h) fun u s1 ⟨x, H1, I1, r1, q1⟩ => ?_)
  exact thn (hr pos pins s1 σ H1 _ I1 q1) fun us s2 ⟨xs, H2, I2, r2, q2⟩ => ⟨x :: xs, H2, I2, .cons r1 r2, q2⟩

/-- a tuple, a list of written items -/
def tTup (t : TA) : TE := fun σ H Q => t σ H fun xs H1 => xs.length ≤ sizeLine ∧ ∀ p, H1 p = none → Q (.ref p) (upd H1 p (.tup xs))
def tLst (t : TA) : TE := fun σ H Q => t σ H fun xs H1 => xs.length ≤ sizeLine ∧ ∀ p, H1 p = none → Q (.ref p) (upd H1 p (.lst xs))
theorem pe_tup {x1} (h : PA X es t) : PE X (.Tuple es x1 pos) (tTup t) := by
  intro pins s σ H Q I hq
  refine wpAny_Tuple_spliced (thn (h pos pins s σ H _ I hq) fun us s1 ⟨xs, H1, I1, r, z, q⟩ => ⟨by rw [← r.length]; exact z, ?_⟩)
  have hf : H1 s1.heap.objs.size = none := I1.hok.fresh (Nat.le_refl _)
  refine ⟨.ref s1.heap.objs.size, upd H1 s1.heap.objs.size (.tup xs), I1.laid (t' := s1.toks) (fun b u e => Heap.get?_push_of_some _ e) (Nat.le_refl _) ?_, rfl, q _ hf⟩
  exact ⟨z, us, r, ⟨_, Heap.get?_push_size _ rfl, rfl, _, rfl⟩⟩
theorem pe_lst (h : PA X es t) : PE X (.List es pos) (tLst t) := by
  intro pins s σ H Q I hq
  refine wpAny_List_spliced (thn (h pos pins s σ H _ I hq) fun us s1 ⟨xs, H1, I1, r, z, q⟩ => ⟨by rw [← r.length]; exact z, ?_⟩)
  have hf : H1 s1.heap.objs.size = none := I1.hok.fresh (Nat.le_refl _)
  refine ⟨.ref s1.heap.objs.size, upd H1 s1.heap.objs.size (.lst xs), I1.laid (t' := s1.toks) (fun b u e => Heap.get?_push_of_some _ e) (Nat.le_refl _) ?_, rfl, q _ hf⟩
  exact ⟨z, us, 0, r, Heap.get?_push_size _ rfl⟩
end

/-! ### what a def promises -/
/-- a def's promise: the bound arguments in the parameters' order, the heap, the wanted end, the wanted exception -/
abbrev Sp := List V → Hp → VK → XK → Prop
/-- how an exception lies behind a call (file 08 gives it): the callers' frames, abstract heap and state ahead of the call, the wish, the exception, the state -/
abbrev CXT := List Env → Hp → Shared → XK → Value → Shared → Prop

/-- the state at a call -/
structure Env0 (P : Program) (w : World) (K : PySem.W.Frag) (mg : Str → Option Value) (base : Heap) (A : Around) (outer : List Env) (s : Shared) (H : Hp) : Prop where
  frames : A.frames = some outer
  mod : Mod K mg base
  bs : ∀ b o, base.get? b = some o → s.heap.get? b = some o ∧ H b = none
  bsz : base.objs.size ≤ s.heap.objs.size
  funs : s.heap.FunFrames base outer
  frf : ∀ b ∈ frs outer, H b = none
  hok : HOk P w H s.heap
  bare : AllBare s.gens
/-- a call's end -/
def CE (outer : List Env) (P : Program) (w : World) (H : Hp) (s : Shared) (Q : VK) (u : Value) (s' : Shared) : Prop :=
  ∃ v H', s'.os = s.os ∧ AllBare s'.gens ∧ Un (frs outer) [] H H' s.heap s'.heap ∧ HOk P w H' s'.heap ∧ RelV v u ∧ Q v H'
def CR (CX : CXT) (outer : List Env) (P : Program) (w : World) (H : Hp) (s : Shared) (Q : VK) (E : XK) (r : Result) (s' : Shared) : Prop :=
  match r with
  | .ok (.ret u) => CE outer P w H s Q u s'
  | .ok _ => False
  | .error e => CX outer H s E e s'
structure FnOk (P : Program) (w : World) (K : PySem.W.Frag) (mg : Str → Option Value) (base : Heap) (CX : CXT) (k : Nat) (f : Addr) (fd : FuncData) (ps : List Str) (sp : Sp) : Prop where
  len : ∀ vs H Q E, sp vs H Q E → vs.length = ps.length
  run : ∀ (A : Around) (outer : List Env) (s : Shared) (H : Hp) (args : Args) (us : List Value) (vs : List V) (Q : VK) (E : XK), Room k A → Env0 P w K mg base A outer s H → BindsTo s fd args (ps.zip us) → Vals vs us → sp vs H Q E →
    codeAny (model P w) A (.call (.ref f) args) (CR CX outer P w H s Q E) s
theorem FnOk.mono {P : Program} {w : World} {K : PySem.W.Frag} {mg : Str → Option Value} {base : Heap} {CX : CXT} {j k : Nat} {f : Addr} {fd : FuncData} {ps : List Str} {sp : Sp} (F : FnOk P w K mg base CX j f fd ps sp) (h : j ≤ k) :
    FnOk P w K mg base CX k f fd ps sp := ⟨F.len, fun A outer s H args us vs Q E hr => F.run A outer s H args us vs Q E (hr.mono h)⟩
/-- a weaker promise -/
theorem FnOk.imp {P : Program} {w : World} {K : PySem.W.Frag} {mg : Str → Option Value} {base : Heap} {CX : CXT} {k : Nat} {f : Addr} {fd : FuncData} {ps : List Str} {sp sp' : Sp} (F : FnOk P w K mg base CX k f fd ps sp)
    (h : ∀ vs H Q E, sp' vs H Q E → sp vs H Q E) : FnOk P w K mg base CX k f fd ps sp' :=
  ⟨fun vs H Q E q => F.len vs H Q E (h _ _ _ _ q), fun A outer s H args us vs Q E hr he hb hv hs => F.run A outer s H args us vs Q E hr he hb hv (h _ _ _ _ hs)⟩

theorem Env0.make {P : Program} {w : World} {K : PySem.W.Frag} {mg : Str → Option Value} {base : Heap} {A : Around} {outer : List Env} {s : Shared} {H : Hp} (e : Env0 P w K mg base A outer s H) (C : Addr) (us : List Value) (kw : List (Str × Value)) :
    Env0 P w K mg base (A.under (.builtin "type.__call__" ⟨.ref C :: us, kw⟩)) outer s H := ⟨by first | exact e.frames | (simpa [Around.under, Code.envs, Code.isFrame, pushEnvs] using e.frames), e.mod, e.bs, e.bsz, e.funs, e.frf, e.hok, e.bare⟩
theorem Env0.in1 {P : Program} {w : World} {K : PySem.W.Frag} {mg : Str → Option Value} {base : Heap} {A : Around} {outer : List Env} {s : Shared} {H : Hp} (e : Env0 P w K mg base A outer s H) :
    Env0 P w K mg base A.in1 outer s H := ⟨e.frames, e.mod, e.bs, e.bsz, e.funs, e.frf, e.hok, e.bare⟩

section
variable {X : Cx} {pins : List (Addr × Obj)} {σ : St} {H : Hp} {s s' : Shared}
/-- from a body: what a callee wants -/
theorem Inv.env0 (I : Inv X pins σ H s) : Env0 X.prog X.w X.K X.mg X.base X.A X.stack s H :=
  ⟨I.ok.frames, I.ok.mod, I.bs, Nat.le_trans I.ok.bsz I.sz, I.stack, I.stkFree, I.hok, I.bare⟩
/-- behind a call -/
theorem Inv.after {Q : VK} {u : Value} (I : Inv X pins σ H s) (h : CE X.stack X.prog X.w H s Q u s') : EP X pins σ Q u s' := by
  obtain ⟨v, H', os, bare, un, hok, r, q⟩ := h
  obtain ⟨hh, g, d, t, os'⟩ := s'
  obtain rfl : os' = s.os := os
  exact ⟨v, H', I.call (h' := hh) (g' := g) (d' := d) (t' := t) (ch := []) un hok bare (fun b z => absurd z (by simp)), r, q⟩
end

/-! ### calls -/
/-- f(..): the written arguments, then the defaults dvs; E: what is wanted of an exception -/
def tCall (sp : Sp) (dvs : List V) (E : XK) (t : TA) : TE := fun σ H Q => t σ H fun vs H1 => sp (vs ++ dvs) H1 Q E
/-- o.m(..) of an instance of the class at C -/
def tMeth (C : Addr) (m : Str) (sp : Sp) (dvs : List V) (E : XK) (ta : TE) (t : TA) : TE := fun σ H Q => ta σ H fun x H1 => ∃ a dx fs, x = .ref a ∧ H1 a = some (.ins C dx fs) ∧ fs.lookup m = none ∧
  t σ H1 fun vs H2 => sp (x :: (vs ++ dvs)) H2 Q E
/-- C(..): a new instance and its dict, then __init__ -/
def tMake (C : Addr) (sp : Sp) (dvs : List V) (E : XK) (t : TA) : TE := fun σ H Q => t σ H fun vs H1 => ∀ x dx, H1 x = none → H1 dx = none → dx ≠ x →
  sp (.ref x :: (vs ++ dvs)) (upd (upd H1 dx (.own x)) x (.ins C dx [])) (fun v H2 => v = .non ∧ Q (.ref x) H2) E

/-- how the parameters are bound: us the positional arguments, kw the keywords' values by name, ds the defaults that fill up -/
def Binds (K : PySem.W.Frag) (fd : FuncData) (ps : List Str) (ds : List Value) : Prop :=
  ∀ (s : Shared) (us : List Value), K.In s.heap → (us ++ ds).length = ps.length → BindsTo s fd ⟨us, []⟩ (ps.zip (us ++ ds))
/-- every parameter is given -/
theorem Binds.all {K : PySem.W.Frag} {fd : FuncData} {ps : List Str} (h : ∀ us : List Value, us.length = ps.length → bindArgs fd ⟨us, []⟩ = pure (ps.zip us)) : Binds K fd ps [] := fun s us _ hl => by
  rw [List.append_nil] at hl ⊢
  exact .of_eq (h us hl)

/-- an exception of a callee reaches what this body wants of exceptions -/
def Passes (CX : CXT) (X : Cx) (E : XK) : Prop := ∀ (pins : List (Addr × Obj)) (σ : St) (H : Hp) (s : Shared) (e : Value) (s' : Shared), Inv X pins σ H s → CX X.stack H s E e s' → X.xe e s'

section
variable {X : Cx} {CX : CXT} {k : Nat} {f C : Addr} {fd : FuncData} {ps : List Str} {sp : Sp} {dvs : List V} {ds : List Value} {E : XK} {x m : Str} {p pos apos : Pos} {e o : Expr} {es : List Expr} {ta : TE} {t : TA}

/-- the callee runs -/
theorem run_fn {pins : List (Addr × Obj)} {σ : St} {H : Hp} {s : Shared} {Q : VK} {us : List Value} {vs : List V} (F : FnOk X.prog X.w X.K X.mg X.base CX k f fd ps sp) (hr : Room k X.A) (hb : Binds X.K fd ps ds) (hd : Vals dvs ds) (hx : Passes CX X E)
    (I : Inv X pins σ H s) (r : Vals vs us) (h : sp (vs ++ dvs) H Q E) : wpAny (model X.prog X.w) X.A (call (.ref f) us) (EP X pins σ Q) X.xe s := by
  have r2 : Vals (vs ++ dvs) (us ++ ds) := r.append hd
  have hl : (us ++ ds).length = ps.length := by rw [← r2.length]; exact F.len _ _ _ _ h
  refine wpAny_call (codeAny_mono (F.run X.A X.stack s H ⟨us, []⟩ (us ++ ds) (vs ++ dvs) Q E hr I.env0 (hb s us I.kIn hl) r2 h) fun r s' hq => ?_)
  cases r with
  | error e => exact hx pins σ H s e s' I hq
  | ok fl =>
    cases fl with
    | ret u => exact I.after hq
    | next => exact False.elim hq
    | brk => exact False.elim hq
    | cont => exact False.elim hq

theorem pe_call (F : FnOk X.prog X.w X.K X.mg X.base CX k f fd ps sp) (hr : Room k X.A) (hg : Gl X x) (hm : X.mg x = some (.ref f)) (hk : PySem.W.keepIn X.K (.ref f) = true) (hb : Binds X.K fd ps ds) (hd : Vals dvs ds) (hx : Passes CX X E)
    (ha : PA X (e :: es) t) (hdb : (x == ("__debug__" : Str)) = false := by decide) (he : starEach (e :: es) X.env = (false, eval e X.env) :: starEach es X.env := by rfl) (hpl : (backTo pos (starEach es X.env)).any (·.1) = false := by rfl) :
    PE X (.Call (.Name x p) (e :: es) [] pos) (tCall sp dvs E t) := by
  intro pins s σ H Q I h
  refine wpAny_Call_Name_kw (ld_glob I hg hm ?_ hdb)
  refine PySem.W.callWith_K (h₀ := X.base) I.ok.mod.kin hk (thn (ha pos pins s σ H _ I h) fun us s1 ⟨vs, H1, I1, r, q⟩ => ⟨I1.kIn, ?_⟩) he hpl
  exact run_fn F hr hb hd hx I1 r q
theorem pe_call0 (F : FnOk X.prog X.w X.K X.mg X.base CX k f fd ps sp) (hr : Room k X.A) (hg : Gl X x) (hm : X.mg x = some (.ref f)) (hk : PySem.W.keepIn X.K (.ref f) = true) (hb : Binds X.K fd ps ds) (hd : Vals dvs ds) (hx : Passes CX X E)
    (hdb : (x == ("__debug__" : Str)) = false := by decide) : PE X (.Call (.Name x p) [] [] pos) (tCall sp dvs E tNil) := by
  intro pins s σ H Q I h
  refine wpAny_Call_Name_kw (ld_glob I hg hm ?_ hdb)
  exact PySem.W.callWith_K0 I.kIn hk (run_fn (us := []) F hr hb hd hx I .nil h)

/-- o.m(e, ..) -/
theorem pe_meth {pl : Sem Bool} (he : PE X o ta) (c : Cls X.K C) (hm : Meth X.K C m f) (F : FnOk X.prog X.w X.K X.mg X.base CX k f fd ps sp) (hr : Room k X.A) (hb : Binds X.K fd ps ds) (hd : Vals dvs ds) (hx : Passes CX X E) (ha : PA X (e :: es) t)
    (hst : starEach (e :: es) X.env = (false, eval e X.env) :: starEach es X.env := by rfl) (hpl : (backTo pos (starEach es X.env)).any (·.1) = false := by rfl)
    (ht : eval (.Call (.Attribute o m apos) (e :: es) [] pos) X.env = (do
      let ov ← eval o X.env
      standAt apos.atName
      let (f, first) ← holding [ov] (getMethod ov m pl)
      callWith pos f first (backTo pos (starEach (e :: es) X.env)) (backToKw pos (keywordEach [] X.env))) := by rfl) :
    PE X (.Call (.Attribute o m apos) (e :: es) [] pos) (tMeth C m sp dvs E ta t) := by
  intro pins s σ H Q I h
  refine PySem.W.methodCall_KW (pl := pl) (thn (he pins s σ H _ I h) fun u s1 ⟨x, H1, I1, rx, a, dx, fs, ex, ea, l, q⟩ => ?_) ht
  subst ex
  obtain rfl : u = Value.ref a := rx
  refine getmeth_ok I1 ea c hm l ?_
  refine PySem.W.callWith_K (first := [.ref a]) (h₀ := X.base) I.ok.mod.kin hm.kp (thn (ha pos pins s1 σ H1 _ I1 q) fun us s2 ⟨vs, H2, I2, r, q2⟩ => ⟨I2.kIn, ?_⟩) hst hpl
  exact run_fn (us := .ref a :: us) (vs := .ref a :: vs) F hr hb hd hx I2 (.cons rfl r) q2
/-- o.m() -/
theorem pe_meth0 {pl : Sem Bool} (he : PE X o ta) (c : Cls X.K C) (hm : Meth X.K C m f) (F : FnOk X.prog X.w X.K X.mg X.base CX k f fd ps sp) (hr : Room k X.A) (hb : Binds X.K fd ps ds) (hd : Vals dvs ds) (hx : Passes CX X E)
    (ht : eval (.Call (.Attribute o m apos) [] [] pos) X.env = (do
      let ov ← eval o X.env
      standAt apos.atName
      let (f, first) ← holding [ov] (getMethod ov m pl)
      callWith pos f first (backTo pos (starEach [] X.env)) (backToKw pos (keywordEach [] X.env))) := by rfl) :
    PE X (.Call (.Attribute o m apos) [] [] pos) (tMeth C m sp dvs E ta tNil) := by
  intro pins s σ H Q I h
  refine PySem.W.methodCall_KW (pl := pl) (thn (he pins s σ H _ I h) fun u s1 ⟨x, H1, I1, rx, a, dx, fs, ex, ea, l, q⟩ => ?_) ht
  subst ex
  obtain rfl : u = Value.ref a := rx
  refine getmeth_ok I1 ea c hm l ?_
  exact PySem.W.callWith_K0 (first := [.ref a]) I1.kIn hm.kp (run_fn (us := [.ref a]) (vs := [.ref a]) F hr hb hd hx I1 (.cons rfl .nil) q)

/-- what a class must have to be made -/
structure Mk (K : PySem.W.Frag) (C f : Addr) : Prop where
  makes : PySem.W.makesIn K C = true
  init : PySem.W.findIn K (.ref C) "__init__" = some (some (.ref f))
  fn : PySem.W.isFn K (.ref f) = true
  kp : PySem.W.keepIn K (.ref C) = true

theorem run_make {pins : List (Addr × Obj)} {σ : St} {H : Hp} {s : Shared} {Q : VK} {us : List Value} {vs : List V} (M : Mk X.K C f) (F : FnOk X.prog X.w X.K X.mg X.base CX k f fd ps sp) (hr : Room (k + 1) X.A) (hb : Binds X.K fd ps ds) (hd : Vals dvs ds)
    (hx : Passes CX X E) (I : Inv X pins σ H s) (r : Vals vs us)
    (h : ∀ x dx, H x = none → H dx = none → dx ≠ x → sp (.ref x :: (vs ++ dvs)) (upd (upd H dx (.own x)) x (.ins C dx [])) (fun v H2 => v = .non ∧ Q (.ref x) H2) E) :
    wpAny (model X.prog X.w) X.A (call (.ref C) us) (EP X pins σ Q) X.xe s := by
  have hq := h (s.heap.objs.size + 1) s.heap.objs.size (I.hok.fresh (Nat.le_succ _)) (I.hok.fresh (Nat.le_refl _)) (Nat.ne_of_lt (Nat.lt_succ_self _))
  have I2 := Inv.made (C := C) I
  have r2 : Vals (V.ref (s.heap.objs.size + 1) :: (vs ++ dvs)) (Value.ref (s.heap.objs.size + 1) :: (us ++ ds)) := .cons rfl (r.append hd)
  have hl : (Value.ref (s.heap.objs.size + 1) :: us ++ ds).length = ps.length := by
    have e := r2.length
    rw [F.len _ _ _ _ hq] at e
    exact e.symm
  refine wpAny_call (make_map (f := f) I.kIn M.makes M.init (beq_iff_eq.mp M.fn) (codeAny_mono (F.run _ X.stack _ _ ⟨Value.ref (s.heap.objs.size + 1) :: us, []⟩ (Value.ref (s.heap.objs.size + 1) :: (us ++ ds)) _ _ E (hr.make C us [])
    (I2.env0.make C us []) (hb _ (Value.ref (s.heap.objs.size + 1) :: us) I2.kIn hl) r2 hq) fun r s' hq' => ?_))
  cases r with
  | error e => exact hx pins σ _ _ e s' I2 hq'
  | ok fl =>
    cases fl with
    | ret u =>
      obtain ⟨v, H', I3, rv, ev, q3⟩ := I2.after hq'
      subst ev
      exact ⟨rv, ⟨V.ref (s.heap.objs.size + 1), H', I3, rfl, q3⟩⟩
    | next => exact False.elim hq'
    | brk => exact False.elim hq'
    | cont => exact False.elim hq'
theorem pe_make (M : Mk X.K C f) (F : FnOk X.prog X.w X.K X.mg X.base CX k f fd ps sp) (hr : Room (k + 1) X.A) (hg : Gl X x) (hm : X.mg x = some (.ref C)) (hb : Binds X.K fd ps ds) (hd : Vals dvs ds) (hx : Passes CX X E)
    (ha : PA X (e :: es) t) (hdb : (x == ("__debug__" : Str)) = false := by decide) (he : starEach (e :: es) X.env = (false, eval e X.env) :: starEach es X.env := by rfl) (hpl : (backTo pos (starEach es X.env)).any (·.1) = false := by rfl) :
    PE X (.Call (.Name x p) (e :: es) [] pos) (tMake C sp dvs E t) := by
  intro pins s σ H Q I h
  refine wpAny_Call_Name_kw (ld_glob I hg hm ?_ hdb)
  refine PySem.W.callWith_K (h₀ := X.base) I.ok.mod.kin M.kp (thn (ha pos pins s σ H _ I h) fun us s1 ⟨vs, H1, I1, r, q⟩ => ⟨I1.kIn, ?_⟩) he hpl
  exact run_make M F hr hb hd hx I1 r q
theorem pe_make0 (M : Mk X.K C f) (F : FnOk X.prog X.w X.K X.mg X.base CX k f fd ps sp) (hr : Room (k + 1) X.A) (hg : Gl X x) (hm : X.mg x = some (.ref C)) (hb : Binds X.K fd ps ds) (hd : Vals dvs ds) (hx : Passes CX X E)
    (hdb : (x == ("__debug__" : Str)) = false := by decide) : PE X (.Call (.Name x p) [] [] pos) (tMake C sp dvs E tNil) := by
  intro pins s σ H Q I h
  refine wpAny_Call_Name_kw (ld_glob I hg hm ?_ hdb)
  exact PySem.W.callWith_K0 I.kIn M.kp (run_make (us := []) M F hr hb hd hx I .nil h)
end

/-! ### keywords -/
/-- the values of the keywords, from the left -/
def PK (X : Cx) (kws : List Keyword) (t : TA) : Prop :=
  ∀ (pos : Pos) (pins : List (Addr × Obj)) (s : Shared) (σ : St) (H : Hp) (Q : List V → Hp → Prop), Inv X pins σ H s → t σ H Q → wpAny (model X.prog X.w) X.A (evalAll ((backToKw pos (keywordEach kws X.env)).map (·.2))) (AP X pins σ Q) X.xe s
section
variable {X : Cx} {CX : CXT} {k : Nat} {f C : Addr} {fd : FuncData} {ps ks : List Str} {sp : Sp} {E : XK} {x m : Str} {p pos apos kpos : Pos} {e o : Expr} {es : List Expr} {kws : List Keyword} {te ta : TE} {t tk : TA} {nm : Option Str}
theorem pk_nil : PK X [] tNil := fun _ _ _ _ H Q I h => wpAny_evalAll_nil ⟨[], H, I, .nil, h⟩
theorem pk_cons (ha : PE X e te) (hr : PK X kws t) : PK X (⟨nm, e, kpos⟩ :: kws) (tCons te t) := by
  intro pos pins s σ H Q I h
  show wpAny _ _ (evalAll ((do let v ← eval e X.env; standAt pos; pure v) :: (backToKw pos (keywordEach kws X.env)).map (·.2))) _ _ s
  refine wpAny_evalAll_cons (wpAny_bind (thn (ha pins s σ H _ I h) fun u s1 ⟨x, H1, I1, r1, q1⟩ => wpAny_bind (wpAny_standAt (wpAny_pure ?_))))
  exact thn (hr pos pins s1 σ H1 _ I1 q1) fun us s2 ⟨xs, H2, I2, r2, q2⟩ => ⟨x :: xs, H2, I2, .cons r1 r2, q2⟩

/-- how a call with keywords binds: g puts the positional values us and the keywords' values ws (names ks) in the parameters' order, defaults among them -/
structure KBinds (K : PySem.W.Frag) (fd : FuncData) (ps ks : List Str) (g : List Value → List Value → List Value) (gV : List V → List V → List V) : Prop where
  to : ∀ (s : Shared) (us ws : List Value), K.In s.heap → (g us ws).length = ps.length → BindsTo s fd ⟨us, ks.zip ws⟩ (ps.zip (g us ws))
  rel : ∀ {vs : List V} {us : List Value} {zs : List V} {ws : List Value}, Vals vs us → Vals zs ws → Vals (gV vs zs) (g us ws)
def tCallK (sp : Sp) (gV : List V → List V → List V) (E : XK) (t tk : TA) : TE := fun σ H Q => t σ H fun vs H1 => tk σ H1 fun zs H2 => sp (gV vs zs) H2 Q E
variable {g : List Value → List Value → List Value} {gV : List V → List V → List V}
theorem run_fnk {pins : List (Addr × Obj)} {σ : St} {H : Hp} {s : Shared} {Q : VK} {us ws : List Value} {vs zs : List V} (F : FnOk X.prog X.w X.K X.mg X.base CX k f fd ps sp) (hr : Room k X.A) (hb : KBinds X.K fd ps ks g gV) (hx : Passes CX X E)
    (I : Inv X pins σ H s) (r : Vals vs us) (rz : Vals zs ws) (h : sp (gV vs zs) H Q E) : wpAny (model X.prog X.w) X.A (call (.ref f) us (ks.zip ws)) (EP X pins σ Q) X.xe s := by
  have r2 := hb.rel r rz
  have hl : (g us ws).length = ps.length := by rw [← r2.length]; exact F.len _ _ _ _ h
  refine wpAny_call (codeAny_mono (F.run X.A X.stack s H ⟨us, ks.zip ws⟩ (g us ws) (gV vs zs) Q E hr I.env0 (hb.to s us ws I.kIn hl) r2 h) fun r s' hq => ?_)
  cases r with
  | error e => exact hx pins σ H s e s' I hq
  | ok fl =>
    cases fl with
    | ret u => exact I.after hq
    | next => exact False.elim hq
    | brk => exact False.elim hq
    | cont => exact False.elim hq
/-- f(e, .., k = v, ..) -/
theorem pe_callK (F : FnOk X.prog X.w X.K X.mg X.base CX k f fd ps sp) (hr : Room k X.A) (hg : Gl X x) (hm : X.mg x = some (.ref f)) (hk : PySem.W.keepIn X.K (.ref f) = true) (hb : KBinds X.K fd ps ks g gV) (hx : Passes CX X E)
    (ha : PA X (e :: es) t) (hkw : PK X kws tk) (hall : (backToKw pos (keywordEach kws X.env)).all (·.1.isSome) = true := by rfl) (hks : (backToKw pos (keywordEach kws X.env)).filterMap (·.1) = ks := by rfl)
    (hdb : (x == ("__debug__" : Str)) = false := by decide) (he : starEach (e :: es) X.env = (false, eval e X.env) :: starEach es X.env := by rfl)
    (hpl : ((backTo pos (starEach (e :: es) X.env)).any (·.1) || (backToKw pos (keywordEach kws X.env)).any (·.1.isNone)) = false := by rfl) :
    PE X (.Call (.Name x p) (e :: es) kws pos) (tCallK sp gV E t tk) := by
  intro pins s σ H Q I h
  refine wpAny_Call_Name_kw (ld_glob I hg hm ?_ hdb)
  refine PySem.W.callWith_KW (h₀ := X.base) I.ok.mod.kin hk hall (thn (ha pos pins s σ H _ I h) fun us s1 ⟨vs, H1, I1, r, q⟩ => ?_) hpl he
  refine thn (hkw pos pins s1 σ H1 _ I1 q) fun ws s2 ⟨zs, H2, I2, rz, q2⟩ => ⟨I2.kIn, ?_⟩
  rw [hks]
  exact run_fnk F hr hb hx I2 r rz q2
end

/-! ### a def's body keeps its promise -/
/-- names: the parameters first -/
structure FnScope (N P : List Str) (sc : Scope) : Prop where
  kind : sc.kind = .function
  co : sc.isCoroutine = false
  gen : sc.isGenerator = false
  nd : N.Nodup
  pre : N.take P.length = P
  par : ∀ x ∈ P, sc.names.lookup x = some .local ∨ sc.names.lookup x = some .cell
  nofree : ∀ y ∈ sc.names, y.2 ≠ .free

theorem bindL_out {kindOf : Str → Option NameKind} {x : Str} : ∀ {binds : List (Str × Value)} {m : Str → Option Value}, (∀ v, (x, v) ∉ binds) → bindL kindOf binds m x = m x
  | [], _, _ => rfl
  | (n, v) :: r, m, h => by
    unfold bindL
    rw [bindL_out fun w hw => h w (List.mem_cons_of_mem _ hw)]
    split
    · have : x ≠ n := by rintro rfl; exact h v List.mem_cons_self
      simp [this]
    · rfl
theorem bindC_out {kindOf : Str → Option NameKind} {x : Str} : ∀ {binds : List (Str × Value)} {m : Str → Option Value}, (∀ v, (x, v) ∉ binds) → bindC kindOf binds m x = m x
  | [], _, _ => rfl
  | (n, v) :: r, m, h => by
    unfold bindC
    rw [bindC_out fun w hw => h w (List.mem_cons_of_mem _ hw)]
    split
    · rfl
    · have : x ≠ n := by rintro rfl; exact h v List.mem_cons_self
      simp [this]
theorem bindL_get {kindOf : Str → Option NameKind} {x : Str} {v : Value} : ∀ {P : List Str} {vs : List Value} {i : Nat} {m : Str → Option Value}, P.Nodup → P[i]? = some x → vs[i]? = some v → kindOf x = some .local →
    bindL kindOf (P.zip vs) m x = some v
  | [], _, _, _, _, h, _, _ => by simp at h
  | _ :: _, [], _, _, _, _, h, _ => by simp at h
  | p :: P, w :: vs, 0, m, nd, h1, h2, hk => by
    simp at h1 h2; subst h1; subst h2
    show bindL kindOf ((p, w) :: P.zip vs) m p = _
    unfold bindL
    rw [bindL_out fun v hv => (List.nodup_cons.mp nd).1 (List.of_mem_zip hv).1, if_pos hk]
    simp
  | p :: P, w :: vs, i + 1, m, nd, h1, h2, hk => by
    show bindL kindOf ((p, w) :: P.zip vs) m x = _
    unfold bindL
    exact bindL_get (i := i) (List.nodup_cons.mp nd).2 (by simpa using h1) (by simpa using h2) hk
theorem bindC_get {kindOf : Str → Option NameKind} {x : Str} {v : Value} : ∀ {P : List Str} {vs : List Value} {i : Nat} {m : Str → Option Value}, P.Nodup → P[i]? = some x → vs[i]? = some v → kindOf x ≠ some .local →
    bindC kindOf (P.zip vs) m x = some v
  | [], _, _, _, _, h, _, _ => by simp at h
  | _ :: _, [], _, _, _, _, h, _ => by simp at h
  | p :: P, w :: vs, 0, m, nd, h1, h2, hk => by
    simp at h1 h2; subst h1; subst h2
    show bindC kindOf ((p, w) :: P.zip vs) m p = _
    unfold bindC
    rw [bindC_out fun v hv => (List.nodup_cons.mp nd).1 (List.of_mem_zip hv).1, if_neg hk]
    simp
  | p :: P, w :: vs, i + 1, m, nd, h1, h2, hk => by
    show bindC kindOf ((p, w) :: P.zip vs) m x = _
    unfold bindC
    exact bindC_get (i := i) (List.nodup_cons.mp nd).2 (by simpa using h1) (by simpa using h2) hk

/-- the names' values at the entry -/
def start (N : List Str) (vs : List V) : St := vs.map some ++ List.replicate (N.length - vs.length) none

/-- the context of a def's body, at its entry; an exception leaves the frame, then lies as CX says -/
def cxOf (CX : CXT) (P : Program) (w : World) (K : PySem.W.Frag) (mg : Str → Option Value) (base : Heap) (N : List Str) (qual : Str) (scope : Scope) (f : Addr) (cd : Value) (A : Around) (outer : List Env) (s : Shared) (H : Hp) (E : XK) : Cx where
  prog := P
  w := w
  K := K
  mg := mg
  base := base
  A := A.deeper (envOfC qual scope s.heap.objs.size f cd)
  N := N
  s₀ := s
  H₀ := H
  env := envOfC qual scope s.heap.objs.size f cd
  outer := outer
  stack := envOfC qual scope s.heap.objs.size f cd :: outer
  ex := []
  calm := true
  fn := fun _ => true
  pn := []
  xe := fun e s' => wpAny (model P w) (A.deeper (envOfC qual scope s.heap.objs.size f cd)) (leaving (envOfC qual scope s.heap.objs.size f cd) e) (fun _ s'' => CX outer H s E e s'') (fun e' s'' => CX outer H s E e' s'') s'

theorem cell_has {sc : Scope} {n : Nat} {x : Str} (h : sc.names.lookup x = some .cell) : ∃ c, (cellsFrom n sc.names []).lookup x = some c := by
  have q := PySem.W.cellsFrom_some sc.names n [] (.inl h)
  exact Option.isSome_iff_exists.mp q

theorem inv_start {CX : CXT} {P : Program} {w : World} {K : PySem.W.Frag} {mg : Str → Option Value} {base : Heap} {N ps : List Str} {qual : Str} {scope : Scope} {f : Addr} {cd : Value} {A : Around} {outer : List Env} {s s1 : Shared} {H : Hp} {E : XK} {us : List Value} {vs : List V}
    (S : FnScope N ps scope) (hd : A.handled = none) (e0 : Env0 P w K mg base A outer s H) (hl : vs.length = ps.length) (r : Vals vs us)
    (x : InCallC s s.heap.objs.size (bindL (envOfC qual scope s.heap.objs.size f cd).kindOf (ps.zip us) fun _ => none) (cellsFrom (s.heap.objs.size + 1) scope.names []) (bindC (envOfC qual scope s.heap.objs.size f cd).kindOf (ps.zip us) fun _ => none) s1) :
    Inv (cxOf CX P w K mg base N qual scope f cd A outer s H E) [] (start N vs) H s1 := by
  have hpl : ps.length ≤ N.length := by have := congrArg List.length S.pre; rw [List.length_take] at this; omega
  obtain ⟨h1, tk, rfl, hk⟩ := x.done
  have noA : ∀ b : Addr, b ∉ (cxOf CX P w K mg base N qual scope f cd A outer s H E).ex := fun b z => absurd (show b ∈ ([] : List Addr) from z) (by simp)
  refine ⟨⟨e0.mod, S.kind, rfl, rfl, Nat.le_refl _, fun y z c h1 h2 => ?_, fun y hy => ?_, fun y c _ h => ?_, fun _ => hd, Around.frames_deeper e0.frames, .inr ⟨rfl, rfl⟩, fun b z => absurd z (noA b), e0.bs, e0.bsz, fun b _ _ => noA b, fun b z => absurd z (noA b), e0.funs, e0.frf⟩,
    rfl, e0.bare, Un.kept hk, ⟨_, x.toInCall.ns, fun i y v h1 h2 h3 => ?_⟩, fun y c h => ⟨_, x.cell y c h⟩, e0.hok.fresh (Nat.le_refl _), fun y c h => ?_, fun p hp => absurd (show p ∈ ([] : List (Addr × Obj)) from hp) (by simp), e0.hok.kept hk, ?_⟩
  · exact name_of_addr x.apart (PySem.mem_of_lookup h1) (PySem.mem_of_lookup h2)
  · have hy : scope.names.lookup y = some .cell ∨ scope.names.lookup y = some .free := hy
    rcases hy with hy | hy
    · exact cell_has hy
    · exact absurd rfl (S.nofree _ (PySem.mem_of_lookup hy))
  · exact Nat.le_of_lt (x.above y c (PySem.mem_of_lookup h))
  · have hi : i < vs.length := by
      unfold start at h2
      by_cases hi : i < vs.length
      · exact hi
      · rw [List.getElem?_append_right (by simpa using hi)] at h2
        rw [List.getElem?_replicate] at h2
        split at h2 <;> cases h2
    have ha : vs[i]? = some v := by
      unfold start at h2
      rw [List.getElem?_append_left (by simpa using hi), List.getElem?_map] at h2
      cases e : vs[i]? with
      | none => rw [e] at h2; cases h2
      | some a => rw [e] at h2; cases h2; rfl
    obtain ⟨u, hu, rv⟩ := r.get ha
    have hp : ps[i]? = some y := by
      rw [← S.pre, List.getElem?_take_of_lt (by omega)]; exact h1
    have ndP : ps.Nodup := by rw [← S.pre]; exact S.nd.sublist (List.take_sublist _ _)
    refine ⟨u, rv, ?_⟩
    rcases S.par y (List.mem_of_getElem? hp) with k | k
    · exact .inl ⟨k, bindL_get ndP hp hu k⟩
    · obtain ⟨c, e⟩ := cell_has (n := s.heap.objs.size + 1) k
      refine .inr ⟨.inl k, c, e, ?_⟩
      have q := x.cell y c e
      rw [bindC_get ndP hp hu (by show scope.names.lookup y ≠ _; rw [k]; decide)] at q
      exact q
  · exact e0.hok.fresh (Nat.le_of_lt (x.above y c (PySem.mem_of_lookup h)))
  · unfold start
    show _ = N.length
    rw [List.length_append, List.length_map, List.length_replicate]
    omega

/-- THE RULE: a def (or a method) of the text, by its body. The body's reading t is chosen for each entry; it is run at the parameters' values -/
theorem fn_of {CX : CXT} {P : Program} {w : World} {K : PySem.W.Frag} {mg : Str → Option Value} {base : Heap} {k : Nat} {f : Addr} {name qual : Str} {params : Arguments} {body : List Stmt} {scope : Scope} {dV kV doc pm cdv ct oc : Value} {an od : Option Addr}
    {osl : Array (Option Value)} {N ps : List Str} {sp : Sp} (lk : K.lookup f = some ⟨oc, od, .func (PySem.W.fnOf name qual params body scope dV kV doc pm an cdv ct), osl⟩) (hcd : PySem.W.codeIn K cdv qual = true) (S : FnScope N ps scope)
    (len : ∀ vs H Q E, sp vs H Q E → vs.length = ps.length)
    (hbody : ∀ (A : Around) (outer : List Env) (s : Shared) (H : Hp) (vs : List V) (Q : VK) (E : XK), Room k (A.deeper (envOfC qual scope s.heap.objs.size f cdv)) → sp vs H Q E →
      ∃ t, PSs (cxOf CX P w K mg base N qual scope f cdv A outer s H E) body t ∧ t { nx := fun _ H' => Q .non H', rt := Q } (start N vs) H) :
    FnOk P w K mg base CX (k + 1) f (PySem.W.fnOf name qual params body scope dV kV doc pm an cdv ct) ps sp := by
  refine ⟨len, fun A outer s H args us vs Q E hr e0 hb r hsp => ?_⟩
  have hl := len _ _ _ _ hsp
  have KX : K.In s.heap := e0.mod.kin.keeps fun b o e => (e0.bs b o e).1
  have lim : s.heap.NoLimit := e0.mod.nolimit.keeps fun b o e => (e0.bs b o e).1
  have hkind : ∀ y ∈ ps.zip us, scope.names.lookup y.1 = some .local ∨ (scope.names.lookup y.1 = some .cell ∧ ((cellsFrom (s.heap.objs.size + 1) scope.names []).lookup y.1).isSome = true) := fun ⟨n, v⟩ hy => by
    rcases S.par n (List.of_mem_zip hy).1 with q | q
    · exact .inl q
    · exact .inr ⟨q, PySem.W.cellsFrom_some _ _ _ (.inl q)⟩
  refine codeAny_call_function hr.depth (KX _ _ lk) rfl S.co S.gen rfl (PySem.W.codeRec_of KX hcd) (hb _ _ _ _ ?_)
  refine wpAny_newFunctionEnv_cells S.kind hkind fun env he s1 x => ?_
  subst he
  refine ⟨lim.keeps x.toInCall.keep, codeAny_func ?_⟩
  obtain ⟨t, ht, hq⟩ := hbody A outer s H vs Q E (hr.deeper _) hsp
  have I : Inv (cxOf CX P w K mg base N qual scope f cdv A outer s H E) [] (start N vs) H s1 := inv_start S hr.hd e0 hl r x
  refine wpAny_mono (ht [] s1 (start N vs) H _ I hq) (fun fl s' hs => ?_) fun e s' hs => hs
  have fin : ∀ {σ' : St} {H' : Hp} {v : V} {u : Value}, Inv (cxOf CX P w K mg base N qual scope f cdv A outer s H E) [] σ' H' s' → RelV v u → Q v H' → CE outer P w H s Q u s' :=
    fun {σ' H' v u} J rv q => ⟨v, H', J.os, J.bare, J.base, J.hok, rv, q⟩
  cases fl with
  | ret u =>
    obtain ⟨v, σ', H', J, rv, q⟩ := hs
    exact fin J rv q
  | next =>
    obtain ⟨σ', H', J, q⟩ := hs
    exact fin (v := V.non) (u := Value.none) J rfl q
  | brk =>
    obtain ⟨_, _, _, q⟩ := hs
    exact False.elim q
  | cont =>
    obtain ⟨_, _, _, q⟩ := hs
    exact False.elim q
end L2

namespace L2
open PySem PySem.Spec PyProof.Rows
section
variable {X : Cx} {x : Str} {p pos : Pos} {e : Expr} {es : List Expr} {t : TA} {id T : String} {r : List V → Hp → VK → Prop}

def tCB (r : List V → Hp → VK → Prop) (t : TA) : TE := fun σ H Q => t σ H fun vs H1 => r vs H1 Q
/-- f(e, ..), f a built-in function -/
theorem pe_callB (hc : CallR X (.builtin id) r) (hg : Gl X x) (hm : X.mg x = none) (hv : bootBuiltins x = some (.builtin id)) (ha : PA X (e :: es) t) (hn : x ≠ "__name__" := by decide) (hdb : (x == ("__debug__" : Str)) = false := by decide)
    (he : starEach (e :: es) X.env = (false, eval e X.env) :: starEach es X.env := by rfl) (hpl : (backTo pos (starEach es X.env)).any (·.1) = false := by rfl) : PE X (.Call (.Name x p) (e :: es) [] pos) (tCB r t) := by
  intro pins s σ H Q I h
  refine wpAny_Call_Name_kw (ld_blt I hg hm hv ?_ hn hdb)
  exact PyProof.Rows.callWith_builtin1 (thn (ha pos pins s σ H _ I h) fun us s1 ⟨vs, H1, I1, r1, q1⟩ => hc pins s1 σ H1 vs us Q I1 r1 q1) he hpl
/-- T(e, ..), T a built-in type -/
theorem pe_callTy (hc : CallR X (.type T) r) (hg : Gl X x) (hm : X.mg x = none) (hv : bootBuiltins x = some (.type T)) (ha : PA X (e :: es) t) (hn : x ≠ "__name__" := by decide) (hdb : (x == ("__debug__" : Str)) = false := by decide)
    (he : starEach (e :: es) X.env = (false, eval e X.env) :: starEach es X.env := by rfl) (hpl : (backTo pos (starEach es X.env)).any (·.1) = false := by rfl) : PE X (.Call (.Name x p) (e :: es) [] pos) (tCB r t) := by
  intro pins s σ H Q I h
  refine wpAny_Call_Name_kw (ld_blt I hg hm hv ?_ hn hdb)
  exact PyProof.Rows.callWith_type1 (thn (ha pos pins s σ H _ I h) fun us s1 ⟨vs, H1, I1, r1, q1⟩ => hc pins s1 σ H1 vs us Q I1 r1 q1) he hpl
/-- T() -/
theorem pe_callTy0 (hc : CallR X (.type T) r) (hg : Gl X x) (hm : X.mg x = none) (hv : bootBuiltins x = some (.type T)) (hn : x ≠ "__name__" := by decide) (hdb : (x == ("__debug__" : Str)) = false := by decide) :
    PE X (.Call (.Name x p) [] [] pos) (tCB r tNil) := by
  intro pins s σ H Q I h
  refine wpAny_Call_Name_kw (ld_blt I hg hm hv ?_ hn hdb)
  exact PyProof.Rows.callWith_type0 (hc pins s σ H [] [] Q I .nil h)
end
end L2

namespace HT
open PySem PyProof.Rows

/-- t < u of tuples of ints -/
def lexLt : List Int → List Int → Bool
  | [], [] => false
  | [], _ :: _ => true
  | _ :: _, [] => false
  | x :: xs, y :: ys => if x = y then lexLt xs ys else decide (x < y)
theorem lexLt_cons (x y : Int) (xs ys : List Int) : lexLt (x :: xs) (y :: ys) = if x = y then lexLt xs ys else decide (x < y) := rfl
theorem lexLt_nil_nil : lexLt [] [] = false := rfl
theorem lexLt_nil_cons (y : Int) (ys : List Int) : lexLt [] (y :: ys) = true := rfl
theorem lexLt_cons_nil (x : Int) (xs : List Int) : lexLt (x :: xs) [] = false := rfl

theorem eqAt_int (A : Around) (s : Shared) (a : Int) (t : Tok) (c : Int) (u : Tok) : ∃ e, SeqAt.EqAt A s (.int a t) (.int c u) e ∧ (e = true ↔ a = c) :=
  ⟨(a == c), SeqAt.EqAt.int_int a t c u, by simp⟩
theorem rcLt_int (A : Around) (s : Shared) (a : Int) (t : Tok) (c : Int) (u : Tok) (prog : Program) (w : World) (E : Value → Shared → Prop) (Q : Value → Shared → Prop) (h : Q (.bool (decide (a < c))) s) :
    wpAny (model prog w) A (richCompare .Lt (.int a t) (.int c u)) Q E s :=
  (PyProof.Rows.lt_int h : wpAny (model prog w) A (compareOp .Lt (.int a t) (.int c u)) Q E s)

section
open PySem.SeqAt
open PySem.AutoSeq1 (wpAny_loadPart')
open PySem.MeetsSeq PySem.MeetsSeq2 PySem.MeetsSeq3

theorem tuple_lt_ints (l b : Addr) (items items2 : Array Value) (n n2 : Nat) (dd dd2 : Option Addr) (sl sl2 : Array (Option Value)) (ns ms : List Int) (hi : IntsAre items.toList ns) (hj : IntsAre items2.toList ms) :
    Meets (Builtin.«tuple.__lt__» ⟨[.ref l, .ref b], []⟩)
      (fun _ R s => s.heap.get? l = some { cls := .type "tuple", dict := dd, data := .seq items n, slots := sl } ∧ s.heap.get? b = some { cls := .type "tuple", dict := dd2, data := .seq items2 n2, slots := sl2 } ∧
        R (.ok (.ret (.bool (lexLt ns ms)))) s) :=
  .of_wp fun prog w A R s h => by
    obtain ⟨hp, g, d, tk, os⟩ := s; obtain ⟨hl, hb, h⟩ := h
    have f2 := AutoSeq1.sub_tuple_tuple
    have z1 : items.size = ns.length := by rw [← hi.length]; simp
    have z2 : items2.size = ms.length := by rw [← hj.length]; simp
    wp_walk using wpAny_loadPart' hl, wpAny_loadPart' hb, wpAny_forIn_list _ (fun rest b s' => b.1 = none ∧ s' = ⟨hp, g, d, tk, os⟩ ∧ ∃ (vs ws : List Value) (ns' ms' : List Int), rest = vs.zip ws ∧
      IntsAre vs ns' ∧ IntsAre ws ms' ∧ ns'.length + items2.size = ms'.length + items.size ∧ R (.ok (.ret (.bool (lexLt ns' ms')))) ⟨hp, g, d, tk, os⟩) _
    case turn =>
      rintro ⟨y, x⟩ rest b s' ⟨hb', rfl, vs, ws, ns', ms', hz, hvi, hwi, hlen, hR⟩
      cases hvi with
      | nil => rw [List.zip_nil_left] at hz; cases hz
      | cons a t hvi' =>
        cases hwi with
        | nil => rw [List.zip_nil_right] at hz; cases hz
        | cons c u hwi' =>
          rw [List.zip_cons_cons] at hz
          injection hz with hyx hrest
          injection hyx with hy hx
          subst hy hx
          rw [lexLt_cons] at hR
          simp only [List.length_cons] at hlen
          obtain ⟨e, he, hiff⟩ := eqAt_int A.in1 ⟨hp, g, d, tk, os⟩ a t c u
          refine wpAny_bind (he prog w _ _ ?_)
          cases e with
          | true =>
            rw [if_pos (hiff.mp rfl)] at hR
            wp_walk
            exact ⟨rfl, rfl, _, _, _, _, hrest, hvi', hwi', by omega, hR⟩
          | false =>
            rw [if_neg (fun q => absurd (hiff.mpr q) Bool.false_ne_true)] at hR
            have hri := rcLt_int A.in1 ⟨hp, g, d, tk, os⟩ a t c u prog w
            wp_walk using hri
            exact ⟨_, rfl, by simpa using hR⟩
    case fin =>
      rintro ⟨b1, b2⟩ s' ⟨hb', rfl, vs, ws, ns', ms', hz, hvi, hwi, hlen, hR⟩
      simp only at hb'
      subst hb'
      have hv : lexLt ns' ms' = decide (items.size < items2.size) := by
        cases hvi with
        | nil =>
          cases hwi with
          | nil =>
            simp only [List.length_nil] at hlen
            rw [lexLt_nil_nil]
            exact (decide_eq_false (by omega)).symm
          | cons c u hw =>
            simp only [List.length_nil, List.length_cons] at hlen
            rw [lexLt_nil_cons]
            exact (decide_eq_true (by omega)).symm
        | cons a t hv =>
          cases hwi with
          | nil =>
            simp only [List.length_nil, List.length_cons] at hlen
            rw [lexLt_cons_nil]
            exact (decide_eq_false (by omega)).symm
          | cons c u hw =>
            rw [List.zip_cons_cons] at hz
            cases hz
      rw [hv] at hR
      wp_walk
      exact ⟨_, rfl, by simpa [Builtin.Tuple.tupleCompareSizes] using hR⟩
    case h =>
      exact ⟨rfl, rfl, items.toList, items2.toList, ns, ms, rfl, hi, hj, by omega, h⟩
end

section
variable {prog : Program} {w : World} {A : Around} {E : Value → Shared → Prop} {s : Shared}

theorem lt_tupInts {l b : Addr} {items items2 : Array Value} {ns ms : List Int} {Q : Value → Shared → Prop} (hl : IsTup s.heap l items) (hb : IsTup s.heap b items2) (hi : IntsAre items.toList ns) (hj : IntsAre items2.toList ms)
    (hu : A.units < cLine) (h : Q (.bool (lexLt ns ms)) s) : wpAny (model prog w) A (compareOp .Lt (.ref l) (.ref b)) Q E s := by
  obtain ⟨⟨cls, dd, data, sl⟩, ho, hc, n, hd⟩ := id hl
  obtain ⟨⟨cls2, dd2, data2, sl2⟩, ho2, hc2, n2, hd2⟩ := id hb
  simp only at hc hd hc2 hd2
  subst hc hd hc2 hd2
  exact richCompare_meets_room (op := .Lt) ⟨_, ho, rfl⟩ ⟨_, ho2, rfl⟩ PySem.F.slot_tuple_lt PySem.F.entry_tuple_lt (PySem.F.args_tuple_lt_2 _ _) (tuple_lt_ints l b items items2 n n2 dd dd2 sl sl2 ns ms hi hj)
    ⟨ho, ho2, show Value.bool (lexLt ns ms) ≠ Value.notImplemented ∧ Q (.bool (lexLt ns ms)) s from ⟨(fun x => nomatch x), h⟩⟩ hu

/-- t + u, t not empty -/
theorem cat_tup {t b : Addr} {vs ws : List Value} {Q : Value → Shared → Prop} (ht : IsTup s.heap t vs.toArray) (hb : IsTup s.heap b ws.toArray) (hv : vs ≠ [])
    (h1 : ws = [] → Q (.ref t) s) (h2 : ws ≠ [] → Q (.ref s.heap.objs.size) { s with heap := s.heap.push { cls := .type "tuple", data := .seq (vs ++ ws).toArray } })
    (hsz : vs.length + ws.length ≤ sizeLine) : wpAny (model prog w) A (binaryOp .Add (.ref t) (.ref b)) Q E s := by
  obtain ⟨⟨cls, dd, data, sl⟩, ho, hc, n, hd⟩ := id ht
  obtain ⟨⟨cls2, dd2, data2, sl2⟩, ho2, hc2, n2, hd2⟩ := id hb
  simp only at hc hd hc2 hd2
  subst hc hd hc2 hd2
  have e : vs.toArray ++ ws.toArray = (vs ++ ws).toArray := by simp
  by_cases hw : ws = []
  · exact concat_meets ⟨_, ho, rfl⟩ ⟨_, ho2, rfl⟩ noFill_tuple_add seq_tuple_add PySem.F.slot_tuple_add PySem.F.entry_tuple_add (PySem.F.args_tuple_add_2 _ _)
      (tuple_addW1 t b vs.toArray ws.toArray n n2 dd dd2 sl sl2 (by simpa using hv) (by simp [hw])) ⟨ho, ho2, h1 hw⟩
  · refine concat_meets ⟨_, ho, rfl⟩ ⟨_, ho2, rfl⟩ noFill_tuple_add seq_tuple_add PySem.F.slot_tuple_add PySem.F.entry_tuple_add (PySem.F.args_tuple_add_2 _ _)
      (tuple_addW2 t b vs.toArray ws.toArray n n2 dd dd2 sl sl2 (by simpa using hv) (by simpa using hw) (by rw [List.size_toArray, List.size_toArray]; exact hsz)) ⟨ho, ho2, ?_⟩
    rw [e]
    exact h2 hw

/-! ### t[a:b], not the whole -/
/-- a slice's bound as a place among n (d where it is left out) -/
def sIx (n d : Nat) : Option Int → Nat
  | none => d
  | some v => if v < 0 then (v + (n : Int)).toNat else min v.toNat n
theorem sIx_none (n d : Nat) : sIx n d none = d := rfl
theorem sIx_nat (n d k : Nat) : sIx n d (some (k : Int)) = min k n := by
  show (if (k : Int) < 0 then ((k : Int) + (n : Int)).toNat else min (k : Int).toNat n) = min k n
  rw [if_neg (by omega), Int.toNat_natCast]
theorem sIx_le (n d : Nat) (hd : d ≤ n) (o : Option Int) : sIx n d o ≤ n := by
  cases o with
  | none => exact hd
  | some v =>
    show (if v < 0 then (v + (n : Int)).toNat else min v.toNat n) ≤ n
    by_cases hv : v < 0
    · rw [if_pos hv]; omega
    · rw [if_neg hv]; exact Nat.min_le_right _ _
theorem clip_eq (v : Int) (n d : Nat) : (if v < 0 then max (v + (n : Int)) 0 else min v (n : Int)) = ((sIx n d (some v) : Nat) : Int) := by
  show (if v < 0 then max (v + (n : Int)) 0 else min v (n : Int)) = (((if v < 0 then (v + (n : Int)).toNat else min v.toNat n) : Nat) : Int)
  by_cases hv : v < 0
  · simp only [if_pos hv]; omega
  · simp only [if_neg hv]; omega
theorem adjust_gen (lo hi : Option Int) (n : Nat) : Builtin.Slice.sliceAdjust lo hi 1 (n : Int) = (((sIx n 0 lo : Nat) : Int), ((sIx n n hi : Nat) : Int)) := by
  have h1 : ¬ ((1 : Int) < 0) := by omega
  unfold Builtin.Slice.sliceAdjust
  simp only [h1, if_false]
  refine Prod.ext ?_ ?_
  · cases lo with
    | none => rfl
    | some v => exact clip_eq v n 0
  · cases hi with
    | none => rfl
    | some v => exact clip_eq v n n
theorem places_gen (i j : Nat) : Builtin.Slice.slicePlaces (i : Int) (j : Int) 1 = j - i := by
  unfold Builtin.Slice.slicePlaces
  have h1 : (1 : Int) > 0 := by omega
  simp only [h1, if_true, Int.ediv_one]
  split <;> omega
theorem slicePart_ {v : Value} {o : Option Int} {Q : Option Int → Shared → Prop} (p : IsPart v o) (h : Q o s) : wpAny (model prog w) A (Builtin.Slice.slicePartIndex v) Q E s := by
  cases p with
  | none => exact slicePart_none h
  | int i t => exact slicePart_int h
theorem sliceApplied_gen {sl : Addr} {vl vu : Value} {lo hi : Option Int} {n : Nat} {Q : Int × Int × Nat → Shared → Prop} (hs : s.heap.IsSliceOf sl vl vu .none) (pl : IsPart vl lo) (pu : IsPart vu hi)
    (h : Q (((sIx n 0 lo : Nat) : Int), 1, sIx n n hi - sIx n 0 lo) s) : wpAny (model prog w) A (Builtin.Slice.sliceApplied (.ref sl) (pure (n : Int))) Q E s := by
  obtain ⟨os, hos, hcs, hds⟩ := id hs
  unfold Builtin.Slice.sliceApplied Builtin.Slice.sliceFields
  refine wpAny_bind (wpAny_bind (wpAny_field hos hds (x := vl) rfl (wpAny_bind (wpAny_field hos hds (x := vu) rfl (wpAny_bind (wpAny_field hos hds (x := .none) rfl (wpAny_pure ?_)))))))
  refine wpAny_bind (slicePart_none ?_)
  show wpAny _ _ (if ((1 : Int) == 0) = true then _ else _) _ _ s
  rw [if_neg (by decide)]
  refine wpAny_bind (slicePart_ pl (wpAny_bind (slicePart_ pu (wpAny_bind (wpAny_pure ?_)))))
  show wpAny _ _ (match Builtin.Slice.sliceAdjust lo hi 1 (n : Int) with | (lo, hi) => pure (lo, (1 : Int), Builtin.Slice.slicePlaces lo hi 1)) _ _ s
  rw [adjust_gen lo hi n]
  show wpAny _ _ (pure (((sIx n 0 lo : Nat) : Int), (1 : Int), Builtin.Slice.slicePlaces ((sIx n 0 lo : Nat) : Int) ((sIx n n hi : Nat) : Int) 1)) _ _ s
  rw [places_gen]
  exact wpAny_pure h
theorem pick_gen (xs : Array Value) (i k : Nat) : ((List.range k).filterMap fun (m : Nat) => xs[((i : Int) + (m : Int) * 1).toNat]?).toArray = ((xs.toList.drop i).take k).toArray := by
  have e : (fun (m : Nat) => xs[((i : Int) + (m : Int) * 1).toNat]?) = fun m => xs[i + m]? := by
    funext m
    have : ((i : Int) + (m : Int) * 1).toNat = i + m := by omega
    rw [this]
  rw [e]
  have := pick_run xs i k
  rw [List.filterMap_map] at this
  have e2 : ((fun x => xs[x]?) ∘ fun x => i + x) = fun m => xs[i + m]? := rfl
  rw [e2] at this
  rw [this]

theorem getItem_tuple_cut {t sl : Addr} {items : Array Value} {vl vu : Value} {lo hi : Option Int} {Q : Value → Shared → Prop} (ht : IsTup s.heap t items) (hs : s.heap.IsSliceOf sl vl vu .none) (pl : IsPart vl lo) (pu : IsPart vu hi)
    (hw : ¬ (sIx items.size 0 lo = 0 ∧ sIx items.size items.size hi = items.size))
    (h : Q (.ref s.heap.objs.size) { s with heap := s.heap.push { cls := .type "tuple", data := .seq ((items.toList.drop (sIx items.size 0 lo)).take (sIx items.size items.size hi - sIx items.size 0 lo)).toArray } })
    (hsz : items.size ≤ sizeLine) : wpAny (model prog w) A (getItem (.ref t) (.ref sl)) Q E s := by
  have htake : sizeOk (.seq ((items.toList.drop (sIx items.size 0 lo)).take (sIx items.size items.size hi - sIx items.size 0 lo)).toArray) := by
    show ((items.toList.drop (sIx items.size 0 lo)).take (sIx items.size items.size hi - sIx items.size 0 lo)).toArray.size ≤ sizeLine
    rw [List.size_toArray, List.length_take, List.length_drop, Array.length_toList]
    omega
  have hj : sIx items.size items.size hi ≤ items.size := sIx_le _ _ (Nat.le_refl _) hi
  obtain ⟨os, hos, hcs, hds⟩ := id hs
  have hTs : s.TypeIs (.ref sl) "slice" := ⟨os, hos, hcs⟩
  unfold getItem
  try with_reducible refine wpAny_holding ?_
  first | refine wpAny_bind (wpAny_pure ?_) | skip
  refine wpAny_bind (wpAny_sequenceKey ht.typeIs (by decide) ?_)
  refine wpAny_bind (wpAny_callSpecial?_slot (name := Str.ofString "__getitem__") ht.typeIs PyProof.Rows.slot_tuple_getitem
    (wpAny_call_entry PyProof.Rows.slot_tuple_getitem ht.typeIs entry_tuple_getitem ?_ (args_tuple_getitem _ _)))
  show wpAny _ _ (Builtin.Tuple.tupleItemsOf (.ref t) >>= _) _ _ s
  refine wpAny_bind (tupleItemsOf_ ht ?_)
  refine wpAny_bind (wpAny_typeOf hTs ?_)
  rw [if_pos (by decide)]
  refine wpAny_bind (sliceApplied_gen hs pl pu ?_)
  have hno : ¬ ((((sIx items.size 0 lo : Nat) : Int) == 0 && (1 : Int) == 1 && (sIx items.size items.size hi - sIx items.size 0 lo) == items.size) = true) := by
    intro q
    rw [Bool.and_eq_true, Bool.and_eq_true] at q
    have q1 : ((sIx items.size 0 lo : Nat) : Int) = 0 := eq_of_beq q.1.1
    have q2 : sIx items.size items.size hi - sIx items.size 0 lo = items.size := eq_of_beq q.2
    exact hw ⟨by omega, by omega⟩
  show wpAny _ _ (if (((sIx items.size 0 lo : Nat) : Int) == 0 && (1 : Int) == 1 && (sIx items.size items.size hi - sIx items.size 0 lo) == items.size) = true then _ else _) _ _ s
  rw [if_neg hno, pick_gen]
  first
    | exact wpAny_bind (m := Builtin.Tuple.tupleExact _) (wpAny_newObj_type (wpAny_pure ⟨_, rfl, wpAny_pure h⟩) htake)
    | exact wpAny_bind (m := Builtin.Tuple.tupleExact _) (wpAny_newObj_type (wpAny_bind (wpAny_pure (wpAny_pure ⟨_, rfl, wpAny_pure h⟩))) htake)
    | exact wpAny_bind (wpAny_bind (m := Builtin.Tuple.tupleExact _) (wpAny_newObj_type (wpAny_pure (wpAny_pure ⟨_, rfl, wpAny_pure h⟩)) htake))
    | exact wpAny_bind (wpAny_bind (m := Builtin.Tuple.tupleExact _) (wpAny_newObj_type (wpAny_pure ⟨_, rfl, wpAny_pure h⟩) htake))
end
end HT

namespace L2
open PySem PySem.Spec PyProof.Rows

/-! ### the parts of a slice -/
abbrev TO := St → Hp → (Option Int → Hp → Prop) → Prop
/-- a slice's part (left out, or an int) -/
def PO (X : Cx) (e : Option Expr) (t : TO) : Prop :=
  ∀ (pins : List (Addr × Obj)) (s : Shared) (σ : St) (H : Hp) (Q : Option Int → Hp → Prop), Inv X pins σ H s → t σ H Q →
    wpAny (model X.prog X.w) X.A (evalPart e X.env) (fun u s' => ∃ o H', Inv X pins σ H' s' ∧ IsPart u o ∧ Q o H') X.xe s
def tNoPart : TO := fun _ H Q => Q none H
def tPart (t : TE) : TO := fun σ H Q => t σ H fun x H1 => ∃ i, x = .int i ∧ Q (some i) H1

theorem intsAre_of {ns : List Int} : ∀ {us : List Value}, Vals (ns.map V.int) us → IntsAre us ns := by
  induction ns with
  | nil => intro us r; rw [List.map_nil] at r; cases r; exact .nil
  | cons n ns ih =>
    intro us r
    rw [List.map_cons] at r
    cases r with
    | cons r1 r2 =>
      obtain ⟨t, e⟩ := r1
      subst e
      exact .cons n t (ih r2)

section
variable {X : Cx} {e : Expr} {te : TE} {lo hi : Option Expr} {tl th : TO} {pos p2 : Pos}

theorem po_none : PO X none tNoPart := by
  intro pins s σ H Q I h
  rw [evalPart_none]
  exact wpAny_pure ⟨none, H, I, .none, h⟩
theorem po_some (h : PE X e te) : PO X (some e) (tPart te) := by
  intro pins s σ H Q I hw
  rw [evalPart_some]
  refine thn (h pins s σ H _ I hw) fun u s1 ⟨x, H1, I1, r1, q1⟩ => ?_
  obtain ⟨i, rfl, q⟩ := q1
  obtain ⟨t, rfl⟩ := r1
  exact ⟨some i, H1, I1, .int i t, q⟩

/-- what a slice of a value is, by values: the slice object stands at sl -/
def SlR (X : Cx) (r : V → Option Int → Option Int → Hp → VK → Prop) : Prop :=
  ∀ (pins : List (Addr × Obj)) (s : Shared) (σ : St) (H : Hp) (x : V) (v vl vu : Value) (lo hi : Option Int) (sl : Addr) (Q : VK), Inv X pins σ H s → RelV x v → s.heap.IsSliceOf sl vl vu .none → IsPart vl lo → IsPart vu hi → r x lo hi H Q →
    ∃ T id, typeLookup (.type T) "__getitem__" = pure (some (.builtin id)) ∧ s.TypeIs v T ∧ wpAny (model X.prog X.w) X.A (getItem v (.ref sl)) (EP X pins σ Q) X.xe s
theorem SlR.or {r r' : V → Option Int → Option Int → Hp → VK → Prop} (h : SlR X r) (h' : SlR X r') : SlR X (fun x lo hi H Q => r x lo hi H Q ∨ r' x lo hi H Q) := by
  intro pins s σ H x v vl vu lo hi sl Q I rx hs pl pu q
  rcases q with q | q
  · exact h pins s σ H x v vl vu lo hi sl Q I rx hs pl pu q
  · exact h' pins s σ H x v vl vu lo hi sl Q I rx hs pl pu q
def tSl (r : V → Option Int → Option Int → Hp → VK → Prop) (te : TE) (tl th : TO) : TE := fun σ H Q => te σ H fun x H1 => tl σ H1 fun l H2 => th σ H2 fun u H3 => r x l u H3 Q
/-- a[lo:hi], any a -/
theorem pe_slice {r : V → Option Int → Option Int → Hp → VK → Prop} (hr : SlR X r) (he : PE X e te) (hl : PO X lo tl) (hu : PO X hi th) : PE X (.Subscript e (.Slice lo hi none p2) pos) (tSl r te tl th) := by
  intro pins s σ H Q I h
  refine Subscript_ (thn (he pins s σ H _ I h) fun v s1 ⟨x, H1, I1, r1, q1⟩ => ?_)
  refine wpAny_Slice (thn (hl pins s1 σ H1 _ I1 q1) fun vl s2 ⟨l, H2, I2, pl, q2⟩ => thn (hu pins s2 σ H2 _ I2 q2) fun vu s3 ⟨u, H3, I3, pu, q3⟩ => ?_)
  rw [evalPart_none]
  refine wpAny_pure ?_
  have I4 : Inv X pins σ H3 { s3 with heap := s3.heap.push { cls := .type "slice", data := .fields #[vl, vu, .none] } } := I3.kept (t' := s3.toks) fun b ob q => Heap.get?_push_of_some _ q
  obtain ⟨T, id, hT, ht, hg⟩ := hr pins { s3 with heap := s3.heap.push { cls := .type "slice", data := .fields #[vl, vu, .none] } } σ H3 x v vl vu l u s3.heap.objs.size Q I4 r1 (Heap.IsSliceOf.new ..) pl pu q3
  show wpAny (model X.prog X.w) X.A (subscriptTail e (.Slice lo hi none p2) v (.ref s3.heap.objs.size)) (EP X pins σ Q) X.xe { s3 with heap := s3.heap.push { cls := .type "slice", data := .fields #[vl, vu, .none] } }
  exact tail_any (ops := [.ref s3.heap.objs.size, v]) ht hT hg (by with_unfolding_all rfl)

/-- the items of xs[lo:hi] -/
def cutV (xs : List V) (lo hi : Option Int) : List V := (xs.drop (HT.sIx xs.length 0 lo)).take (HT.sIx xs.length xs.length hi - HT.sIx xs.length 0 lo)
theorem cutV_length (xs : List V) (lo hi : Option Int) : (cutV xs lo hi).length ≤ xs.length := by
  unfold cutV
  rw [List.length_take, List.length_drop]
  omega
/-- t[lo:hi], not the whole of it (the whole would be t itself) -/
def rSlT (K : PySem.W.Frag) : V → Option Int → Option Int → Hp → VK → Prop := fun x lo hi H Q => ∃ a xs, x = .ref a ∧ SqT K H a xs ∧
  ¬ (HT.sIx xs.length 0 lo = 0 ∧ HT.sIx xs.length xs.length hi = xs.length) ∧ ∀ p, H p = none → Q (.ref p) (upd H p (.tup (cutV xs lo hi)))
theorem sl_tup : SlR X (rSlT X.K) := by
  intro pins s σ H x v vl vu lo hi sl Q I rx hs pl pu h
  obtain ⟨a, xs, rfl, hx, hw, q⟩ := h
  cases rx
  obtain ⟨its, r, ht, hz⟩ := I.tuple hx
  have hlen : its.toArray.size = xs.length := by rw [List.size_toArray]; exact r.length.symm
  refine ⟨"tuple", _, PyProof.Rows.slot_tuple_getitem.lookup, ht.typeIs, ?_⟩
  refine HT.getItem_tuple_cut ht hs pl pu (by rw [hlen]; exact hw) ?_ (by rw [hlen]; exact hz)
  rw [hlen]
  refine ⟨.ref s.heap.objs.size, _, I.laid (t' := s.toks) (o := .tup (cutV xs lo hi)) (fun b ob q => Heap.get?_push_of_some _ q) (Nat.le_refl _) ?_, rfl, q _ (I.hok.fresh (Nat.le_refl _))⟩
  exact ⟨Nat.le_trans (cutV_length xs lo hi) hz, _, (r.drop (HT.sIx xs.length 0 lo)).take (HT.sIx xs.length xs.length hi - HT.sIx xs.length 0 lo), IsTup.new _ _⟩

/-! ### t < u, t + u -/
def rLtT (K : PySem.W.Frag) : R2 := fun x y H Q => ∃ a b ns ms, x = .ref a ∧ y = .ref b ∧ SqT K H a (ns.map V.int) ∧ SqT K H b (ms.map V.int) ∧ Q (.bl (HT.lexLt ns ms)) H
theorem op_ltT (hu : X.A.units < cLine) : OpR X (compareOp .Lt) (rLtT X.K) := by
  intro pins s σ H x y v u Q I rx ry h
  obtain ⟨a, b, ns, ms, rfl, rfl, ha, hb, q⟩ := h
  cases rx
  cases ry
  obtain ⟨its, r1, p1, _⟩ := I.tuple ha
  obtain ⟨its2, r2, p2, _⟩ := I.tuple hb
  have i1 : IntsAre its.toArray.toList ns := intsAre_of r1
  have i2 : IntsAre its2.toArray.toList ms := intsAre_of r2
  exact HT.lt_tupInts p1 p2 i1 i2 hu ⟨.bl (HT.lexLt ns ms), H, I, rfl, q⟩
/-- t + u, t not empty: u empty gives t itself -/
def rCatT (K : PySem.W.Frag) : R2 := fun x y H Q => ∃ a b xs ys, x = .ref a ∧ y = .ref b ∧ SqT K H a xs ∧ SqT K H b ys ∧ xs ≠ [] ∧ xs.length + ys.length ≤ sizeLine ∧
  (ys = [] → Q (.ref a) H) ∧ (ys ≠ [] → ∀ p, H p = none → Q (.ref p) (upd H p (.tup (xs ++ ys))))
theorem Vals.nil_iff {xs : List V} {us : List Value} (r : Vals xs us) : us = [] ↔ xs = [] := by
  cases r with
  | nil => simp
  | cons _ _ => simp
theorem op_catT : OpR X (binaryOp .Add) (rCatT X.K) := by
  intro pins s σ H x y v u Q I rx ry h
  obtain ⟨a, b, xs, ys, rfl, rfl, ha, hb, hx, hz, q1, q2⟩ := h
  cases rx
  cases ry
  obtain ⟨its, r1, p1, _⟩ := I.tuple ha
  obtain ⟨its2, r2, p2, _⟩ := I.tuple hb
  refine HT.cat_tup p1 p2 (fun z => hx (r1.nil_iff.mp z)) (fun z => ⟨.ref a, H, I, rfl, q1 (r2.nil_iff.mp z)⟩) (fun z => ?_) (by rw [← r1.length, ← r2.length]; exact hz)
  refine ⟨.ref s.heap.objs.size, _, I.laid (t' := s.toks) (o := .tup (xs ++ ys)) (fun b ob q => Heap.get?_push_of_some _ q) (Nat.le_refl _) ?_, rfl, q2 (fun w => z (r2.nil_iff.mpr w)) _ (I.hok.fresh (Nat.le_refl _))⟩
  exact ⟨by rw [List.length_append]; exact hz, _, r1.append r2, IsTup.new _ _⟩
/-- tuple(t) -/
theorem call_tupleT : CallR X (.type "tuple") (fun xs H Q => ∃ a ys, xs = [.ref a] ∧ SqT X.K H a ys ∧ Q (.ref a) H) := by
  intro pins s σ H xs us Q I r h
  obtain ⟨a, ys, rfl, ha, q⟩ := h
  obtain ⟨u, rfl, ru⟩ := vals1 r
  cases ru
  obtain ⟨its, _, p1, _⟩ := I.tuple ha
  exact call_tuple_same (items := its.toArray) p1 ⟨.ref a, H, I, rfl, q⟩
end
end L2

namespace L2
open PySem PySem.Spec PyProof.Rows

/-! ### places -/
/-- the place that an index of any sign means -/
def ixN (n : Nat) (i : Int) : Option Nat := if 0 ≤ i then (if i < n then some i.toNat else none) else if -(n : Int) ≤ i then some (i + n).toNat else none
def atI {α : Type} (xs : List α) (i : Int) : Option α := (ixN xs.length i).bind fun j => xs[j]?
theorem ixN_seq {n : Nat} {i : Int} {j : Nat} (h : ixN n i = some j) : seqIndex? i n = some j ∧ j < n ∧ -(n : Int) ≤ i ∧ i < n := by
  unfold ixN at h
  by_cases h0 : 0 ≤ i
  · rw [if_pos h0] at h
    by_cases h1 : i < n
    · rw [if_pos h1] at h
      have e : i.toNat = j := Option.some.inj h
      exact ⟨by rw [seqIndex_of h0 h1, e], by omega, by omega, h1⟩
    · rw [if_neg h1] at h; cases h
  · rw [if_neg h0] at h
    by_cases h1 : -(n : Int) ≤ i
    · rw [if_pos h1] at h
      have e : (i + n).toNat = j := Option.some.inj h
      exact ⟨by rw [seqIndex_neg (by omega) h1, e], by omega, h1, by omega⟩
    · rw [if_neg h1] at h; cases h
theorem atI_get {α : Type} {xs : List α} {i : Int} {v : α} (h : atI xs i = some v) : ∃ j, seqIndex? i xs.length = some j ∧ xs[j]? = some v ∧ j < xs.length ∧ -(xs.length : Int) ≤ i ∧ i < xs.length := by
  unfold atI at h
  cases e : ixN xs.length i with
  | none => rw [e] at h; cases h
  | some j =>
    rw [e] at h
    obtain ⟨h1, h2, h3, h4⟩ := ixN_seq e
    exact ⟨j, h1, h, h2, h3, h4⟩
theorem atI_nat {α : Type} {xs : List α} {j : Nat} {v : α} (h : xs[j]? = some v) : atI xs (j : Int) = some v := by
  have hj : j < xs.length := (List.getElem?_eq_some_iff.mp h).1
  have e : ixN xs.length (j : Int) = some j := by
    unfold ixN
    rw [if_pos (by omega), if_pos (by omega)]; simp
  unfold atI; rw [e]; exact h
theorem atI_last {α : Type} (xs : List α) (v : α) : atI (xs ++ [v]) (-1) = some v := by
  have hl : (xs ++ [v]).length = xs.length + 1 := by simp
  have e : ixN (xs ++ [v]).length (-1) = some xs.length := by
    unfold ixN
    rw [hl, if_neg (by decide), if_pos (by omega)]
    congr 1
    omega
  unfold atI
  rw [e]
  show (xs ++ [v])[xs.length]? = some v
  simp

/-! ### what may be subscripted -/
/-- what stands as an index of a plain subscript -/
def PlainIx (b : Expr) : Prop := ∀ o i, subscripted b false o i = operate [o, i] (getItem o i)
/-- a subscript by values -/
def IxR (X : Cx) (r : R2) : Prop :=
  ∀ (value slice : Expr) (pins : List (Addr × Obj)) (s : Shared) (σ : St) (H : Hp) (x y : V) (v u : Value) (Q : VK), Inv X pins σ H s → RelV x v → RelV y u → r x y H Q →
    subscripted slice false v u = operate [v, u] (getItem v u) → wpAny (model X.prog X.w) X.A (subscriptTail value slice v u) (EP X pins σ Q) X.xe s
/-- a call of a builtin's method by values: the receiver, the arguments -/
def MtR (X : Cx) (id : String) (r : V → List V → Hp → VK → Prop) : Prop :=
  ∀ (pins : List (Addr × Obj)) (s : Shared) (σ : St) (H : Hp) (x : V) (xs : List V) (v : Value) (us : List Value) (Q : VK), Inv X pins σ H s → RelV x v → Vals xs us → r x xs H Q →
    wpAny (model X.prog X.w) X.A (call (.builtin id) (v :: us)) (EP X pins σ Q) X.xe s
section
variable {X : Cx} {a b : Expr} {ta tb : TE} {pos : Pos}
theorem IxR.or {r r' : R2} (h : IxR X r) (h' : IxR X r') : IxR X (fun x y H Q => r x y H Q ∨ r' x y H Q) := by
  intro value slice pins s σ H x y v u Q I rx ry q hs
  rcases q with q | q
  · exact h value slice pins s σ H x y v u Q I rx ry q hs
  · exact h' value slice pins s σ H x y v u Q I rx ry q hs
theorem MtR.or {id : String} {r r' : V → List V → Hp → VK → Prop} (h : MtR X id r) (h' : MtR X id r') : MtR X id (fun x xs H Q => r x xs H Q ∨ r' x xs H Q) := by
  intro pins s σ H x xs v us Q I rx rs q
  rcases q with q | q
  · exact h pins s σ H x xs v us Q I rx rs q
  · exact h' pins s σ H x xs v us Q I rx rs q
/-- a[b] -/
theorem pe_ix {r : R2} (hr : IxR X r) (ha : PE X a ta) (hb : PE X b tb) (hs : PlainIx b) : PE X (.Subscript a b pos) (tOp r ta tb) := by
  intro pins s σ H Q I h
  exact Subscript_ (binT ha hb I h fun v u s2 x y H2 I2 rx ry q => hr a b pins s2 σ H2 x y v u Q I2 rx ry q (hs _ _))

def rIxL (K : PySem.W.Frag) : R2 := fun x y H Q => ∃ p xs i v, x = .ref p ∧ y = .int i ∧ SqL K H p xs ∧ atI xs i = some v ∧ Q v H
def rIxT (K : PySem.W.Frag) : R2 := fun x y H Q => ∃ p xs i v, x = .ref p ∧ y = .int i ∧ SqT K H p xs ∧ atI xs i = some v ∧ Q v H
def rIxS : R2 := fun x y H Q => ∃ z i c, x = .str z ∧ y = .int i ∧ z.length ≤ sizeLine ∧ atI z.cps.toList i = some c ∧ Q (.str ⟨#[c]⟩) H
theorem ix_list : IxR X (rIxL X.K) := by
  intro value slice pins s σ H x y v u Q I rx ry h hs
  obtain ⟨p, xs, i, z, rfl, rfl, hq, he, q⟩ := h
  cases rx
  obtain ⟨t, rfl⟩ := ry
  obtain ⟨its, r, pl, hz⟩ := I.list hq
  obtain ⟨j, h1, h2, h3, h4, h5⟩ := atI_get he
  obtain ⟨w, ew, rw'⟩ := r.get h2
  have hl := r.length
  have hn := line63
  have fin : EP X pins σ Q w s := ⟨z, H, I, rw', q⟩
  by_cases h0 : 0 ≤ i
  · have hj : i.toNat = j := by
      rw [seqIndex_of h0 h5] at h1
      exact Option.some.inj h1
    exact item_listR pl.isList h0 (by omega) (by rw [hj]; simpa using ew) fin hs
  · have hj : (i + (its.toArray.size : Int)).toNat = j := by
      rw [seqIndex_neg (by omega) h4] at h1
      rw [List.size_toArray, ← hl]
      exact Option.some.inj h1
    exact subscriptTail_builtinR (x := w) pl.isList.typeIs slot_list_getitem.lookup
      (wpAny_getItem_list_neg (Q := fun r s' => r = w ∧ EP X pins σ Q r s') pl.isList (by omega) (by rw [List.size_toArray] <;> omega) (by omega) (by rw [hj]; simpa using ew) ⟨rfl, fin⟩) hs
theorem ix_tup : IxR X (rIxT X.K) := by
  intro value slice pins s σ H x y v u Q I rx ry h hs
  obtain ⟨p, xs, i, z, rfl, rfl, hq, he, q⟩ := h
  cases rx
  obtain ⟨t, rfl⟩ := ry
  obtain ⟨its, r, pl, hz⟩ := I.tuple hq
  obtain ⟨j, h1, h2, h3, h4, h5⟩ := atI_get he
  obtain ⟨w, ew, rw'⟩ := r.get h2
  have hl := r.length
  have hn := line63
  have fin : EP X pins σ Q w s := ⟨z, H, I, rw', q⟩
  exact subscriptTail_builtinR (x := w) pl.typeIs slot_tuple_getitem.lookup
    (getItem_tuple (j := j) (Q := fun r s' => r = w ∧ EP X pins σ Q r s') pl (by omega) (by omega) (by rw [List.size_toArray, ← hl]; exact h1) (by simpa using ew) ⟨rfl, fin⟩) hs
theorem ix_str : IxR X rIxS := by
  intro value slice pins s σ H x y v u Q I rx ry h hs
  obtain ⟨z, i, c, rfl, rfl, hz, he, q⟩ := h
  obtain ⟨t, rfl⟩ := rx
  obtain ⟨t', rfl⟩ := ry
  obtain ⟨j, h1, h2, h3, h4, h5⟩ := atI_get he
  have hl : z.cps.toList.length = z.length := by simp [Str.length]
  rw [hl] at h1 h4 h5
  have hn := line63
  exact tail_any (typeIs_str s z t) slot_str_getitem.lookup (getItem_str (c := c) (by
    have e1 : decide (i < -(2 ^ 63 : Int)) = false := decide_eq_false (by omega)
    have e2 : decide (i ≥ 2 ^ 63) = false := decide_eq_false (by omega)
    rw [e1, e2, Bool.or_false]) (by rw [h1]; simpa using h2) ⟨.str ⟨#[c]⟩, H, I.tok _, ⟨_, rfl⟩, q⟩) hs
/-- list, tuple or str -/
def rIx (K : PySem.W.Frag) : R2 := fun x y H Q => rIxL K x y H Q ∨ rIxT K x y H Q ∨ rIxS x y H Q
theorem ix_seq : IxR X (rIx X.K) := ix_list.or (ix_tup.or ix_str)

/-! ### xs[i] = v, any sign -/
/-- the list's object behind a store -/
theorem mapSeq_set (its : List Value) (n j : Nat) (u : Value) : Obj.mapSeq (·.setIfInBounds j u) { cls := .type "list", data := .seq its.toArray n } = { cls := .type "list", data := .seq (its.set j u).toArray n } := by
  simp [Obj.mapSeq]
theorem Inv.lst {pins : List (Addr × Obj)} {σ : St} {H : Hp} {s : Shared} {p : Addr} {xs : List V} (I : Inv X pins σ H s) (h : H p = some (.lst xs)) :
    ∃ (its : List Value) (n : Nat), Vals xs its ∧ s.heap.get? p = some { cls := .type "list", data := .seq its.toArray n } ∧ xs.length ≤ sizeLine := by
  obtain ⟨z, its, n, r, e⟩ := I.hok p _ h
  exact ⟨its, n, r, e, z⟩
/-- the list at p is written by an update of its object -/
theorem Inv.lstUpd {pins : List (Addr × Obj)} {σ : St} {H : Hp} {s : Shared} {p : Addr} {xs ys : List V} {its its' : List Value} {n n' : Nat} {f : Obj → Obj} (I : Inv X pins σ H s) (h : H p = some (.lst xs))
    (ho : s.heap.get? p = some { cls := .type "list", data := .seq its.toArray n }) (hf : f { cls := .type "list", data := .seq its.toArray n } = { cls := .type "list", data := .seq its'.toArray n' }) (r : Vals ys its') (hz : ys.length ≤ sizeLine) (t : Nat) :
    Inv X pins σ (upd H p (.lst ys)) { s with heap := s.heap.update p f, toks := t } := by
  have e : (s.heap.update p f).get? p = some { cls := .type "list", data := .seq its'.toArray n' } := by
    rw [Heap.get?_update_self f ho (by rw [hf] <;> rfl), hf]
  refine I.write (x := p) (e := p) (by rw [h]; trivial) (.inl rfl) (fun b u hb q => (Heap.get?_update_other _ _ (Ne.symm hb)).trans q) ⟨_, e⟩ ?_
  exact ⟨hz, its', n', r, e⟩
def rSetL : V → V → V → Hp → (Hp → Prop) → Prop := fun o i v H Q => ∃ p xs k j, o = .ref p ∧ i = .int k ∧ H p = some (.lst xs) ∧ ixN xs.length k = some j ∧ Q (upd H p (.lst (xs.set j v)))
theorem set_list : PSet X rSetL := by
  intro pins s σ H o i v ov iv u Q I ro ri rv h
  obtain ⟨p, xs, k, j, rfl, rfl, hp, hj, q⟩ := h
  cases ro
  obtain ⟨t, rfl⟩ := ri
  obtain ⟨its, n, r, ho, hz⟩ := I.lst hp
  obtain ⟨h1, h2, h3, h4⟩ := ixN_seq hj
  have hl := r.length
  have hn := line63
  have I' : Inv X pins σ (upd H p (.lst (xs.set j v))) { s with heap := s.heap.update p (Obj.mapSeq (·.setIfInBounds j u)) } :=
    I.lstUpd hp ho (mapSeq_set its n j u) (r.set rv j) (by rw [List.length_set]; exact hz) s.toks
  by_cases h0 : 0 ≤ k
  · have hk : k.toNat = j := by
      rw [seqIndex_of h0 h4] at h1
      exact Option.some.inj h1
    exact PySem.W.ki_setAt ho h0 (by omega) (by rw [List.size_toArray, ← hl]; exact h4) (by rw [hk]; exact ⟨_, I', q⟩)
  · have hk : (k + (its.toArray.size : Int)).toNat = j := by
      rw [seqIndex_neg (by omega) h3] at h1
      rw [List.size_toArray, ← hl]
      exact Option.some.inj h1
    exact PySem.W.ki_setBack ho (by omega) (by rw [List.size_toArray, ← hl]; exact h3) (by omega) (by rw [hk]; exact ⟨_, I', q⟩)

/-! ### slices -/
theorem slice_bounds (lo hi : Option Int) (n : Nat) : (sliceBounds lo hi none n).1 = ((HT.sIx n 0 lo : Nat) : Int) ∧ (sliceBounds lo hi none n).2.1 = ((HT.sIx n n hi : Nat) : Int) ∧ (sliceBounds lo hi none n).2.2 = 1 := by
  refine ⟨?_, ?_, rfl⟩
  · cases lo with
    | none => simp [sliceBounds, HT.sIx]
    | some i =>
      simp only [sliceBounds, HT.sIx, Option.getD_none, show (1 : Int) > 0 by decide, if_true]
      by_cases h : i < 0
      · simp only [h, if_true] <;> omega
      · simp only [h, if_false] <;> omega
  · cases hi with
    | none => simp [sliceBounds, HT.sIx]
    | some i =>
      simp only [sliceBounds, HT.sIx, Option.getD_none, show (1 : Int) > 0 by decide, if_true]
      by_cases h : i < 0
      · simp only [h, if_true] <;> omega
      · simp only [h, if_false] <;> omega
theorem slicePick_cut (its : List Value) (lo hi : Option Int) : slicePick its.toArray lo hi none = ((its.drop (HT.sIx its.length 0 lo)).take (HT.sIx its.length its.length hi - HT.sIx its.length 0 lo)).toArray := by
  obtain ⟨h1, h2, h3⟩ := slice_bounds lo hi its.toArray.size
  unfold slicePick
  rw [h1, h2, h3]
  simp only [sliceRange_one, pick_run, List.size_toArray] <;> rfl
/-- xs[lo:hi] of a list: a new list -/
def rSlL (K : PySem.W.Frag) : V → Option Int → Option Int → Hp → VK → Prop := fun x lo hi H Q => ∃ a xs, x = .ref a ∧ SqL K H a xs ∧ ∀ p, H p = none → Q (.ref p) (upd H p (.lst (cutV xs lo hi)))
theorem sl_list : SlR X (rSlL X.K) := by
  intro pins s σ H x v vl vu lo hi sl Q I rx hs pl pu h
  obtain ⟨a, xs, rfl, hx, q⟩ := h
  cases rx
  obtain ⟨its, r, ht, hz⟩ := I.list hx
  have hlen := r.length
  refine ⟨"list", _, slot_list_getitem.lookup, ht.isList.typeIs, ?_⟩
  refine wpAny_getItem_list_slice ht.isList hs pl pu .none (by simp) ?_ (by rw [List.size_toArray] <;> omega)
  rw [slicePick_cut, ← hlen]
  refine ⟨.ref s.heap.objs.size, _, I.laid (t' := s.toks) (o := .lst (cutV xs lo hi)) (fun b ob q => Heap.get?_push_of_some _ q) (Nat.le_refl _) ?_, rfl, q _ (I.hok.fresh (Nat.le_refl _))⟩
  exact ⟨Nat.le_trans (cutV_length xs lo hi) hz, _, 0, (r.drop (HT.sIx xs.length 0 lo)).take (HT.sIx xs.length xs.length hi - HT.sIx xs.length 0 lo), Heap.get?_push_size _ rfl⟩

/-! ### in, not in: flat items -/
def flatV : V → Bool
  | .non => true
  | .bl _ => true
  | .int _ => true
  | .str _ => true
  | _ => false
/-- == of flat values -/
def eqV : V → V → Bool
  | .non, .non => true
  | .bl a, .bl b => a == b
  | .bl a, .int b => (if a then 1 else 0) == b
  | .int a, .bl b => a == (if b then 1 else 0)
  | .int a, .int b => a == b
  | .str a, .str b => a == b
  | _, _ => false
theorem eqAt_V {A : Around} {s : Shared} {y x : V} {u v : Value} (ry : RelV y u) (rx : RelV x v) (fy : flatV y = true) (fx : flatV x = true) : SeqAt.EqAt A s u v (eqV y x) := by
  cases y with
  | non =>
    cases ry
    cases x with
    | non => cases rx; exact SeqAt.EqAt.same _
    | bl b => cases rx; exact SeqAt.EqAt.none_bool b
    | int b => obtain ⟨t, rfl⟩ := rx; exact SeqAt.EqAt.none_int b t
    | str b => obtain ⟨t, rfl⟩ := rx; exact SeqAt.EqAt.none_str b t
    | _ => exact absurd (show false = true from fx) Bool.false_ne_true
  | bl a =>
    cases ry
    cases x with
    | non => cases rx; exact SeqAt.EqAt.bool_none a
    | bl b => cases rx; exact SeqAt.EqAt.bool_bool a b
    | int b => obtain ⟨t, rfl⟩ := rx; exact SeqAt.EqAt.bool_int a b t
    | str b => obtain ⟨t, rfl⟩ := rx; exact SeqAt.EqAt.bool_str a b t
    | _ => exact absurd (show false = true from fx) Bool.false_ne_true
  | int a =>
    obtain ⟨t', rfl⟩ := ry
    cases x with
    | non => cases rx; exact SeqAt.EqAt.int_none a t'
    | bl b => cases rx; exact SeqAt.EqAt.int_bool a t' b
    | int b => obtain ⟨t, rfl⟩ := rx; exact SeqAt.EqAt.int_int a t' b t
    | str b => obtain ⟨t, rfl⟩ := rx; exact SeqAt.EqAt.int_str a t' b t
    | _ => exact absurd (show false = true from fx) Bool.false_ne_true
  | str a =>
    obtain ⟨t', rfl⟩ := ry
    cases x with
    | non => cases rx; exact SeqAt.EqAt.str_none a t'
    | bl b => cases rx; exact SeqAt.EqAt.str_bool a t' b
    | int b => obtain ⟨t, rfl⟩ := rx; exact SeqAt.EqAt.str_int a t' b t
    | str b => obtain ⟨t, rfl⟩ := rx; exact SeqAt.EqAt.str_str a t' b t
    | _ => exact absurd (show false = true from fx) Bool.false_ne_true
  | _ => exact absurd (show false = true from fy) Bool.false_ne_true
/-- the items' answers, read off the values (a value's own answer does not lean on its token) -/
def eqU (x : V) (u : Value) : Bool := match u with
  | .none => eqV .non x
  | .bool b => eqV (.bl b) x
  | .int i _ => eqV (.int i) x
  | .str z _ => eqV (.str z) x
  | _ => false
theorem eqU_of {x y : V} {u : Value} (r : RelV y u) (f : flatV y = true) : eqU x u = eqV y x := by
  cases y with
  | non => cases r; rfl
  | bl b => cases r; rfl
  | int i => obtain ⟨t, rfl⟩ := r; rfl
  | str z => obtain ⟨t, rfl⟩ := r; rfl
  | _ => exact absurd (show false = true from f) Bool.false_ne_true
theorem any_eqU {x : V} : ∀ {xs : List V} {us : List Value}, Vals xs us → xs.all flatV = true → us.any (eqU x) = xs.any fun y => eqV y x
  | _, _, .nil, _ => rfl
  | y :: xs, u :: us, .cons r t, f => by
    rw [List.all_cons, Bool.and_eq_true] at f
    rw [List.any_cons, List.any_cons, eqU_of r f.1, any_eqU t f.2]
theorem mem_eqAt {A : Around} {s : Shared} {x : V} {v : Value} (rx : RelV x v) (fx : flatV x = true) : ∀ {xs : List V} {us : List Value}, Vals xs us → xs.all flatV = true → ∀ u ∈ us, SeqAt.EqAt A s u v (eqU x u)
  | _, _, .nil, _ => fun u hu => by cases hu
  | y :: xs, u :: us, .cons r t, f => fun u' hu => by
    rw [List.all_cons, Bool.and_eq_true] at f
    rcases List.mem_cons.mp hu with rfl | hu
    · rw [eqU_of r f.1]; exact eqAt_V r rx f.1 fx
    · exact mem_eqAt rx fx t f.2 u' hu
def inV (x : V) (xs : List V) : Bool := xs.any fun y => eqV y x
/-- x in a list or tuple of flat items -/
def rIn (K : PySem.W.Frag) (neg : Bool) : R2 := fun x y H Q => ∃ p xs, y = .ref p ∧ (SqL K H p xs ∨ SqT K H p xs) ∧ flatV x = true ∧ xs.all flatV = true ∧ Q (.bl (if neg then !inV x xs else inV x xs)) H
theorem op_in_seq : OpR X (compareOp .In) (rIn X.K false) := by
  intro pins s σ H x y v u Q I rx ry h
  obtain ⟨p, xs, rfl, hq, fx, fs, q⟩ := h
  cases ry
  rcases hq with hq | hq
  · obtain ⟨its, r, pl, hz⟩ := I.list hq
    refine SeqAt.in_listAt (eqU x) pl.isList (fun w hw => mem_eqAt rx fx r fs w (by simpa using hw)) ⟨.bl _, H, I, rfl, ?_⟩
    rw [show its.toArray.any (eqU x) = its.any (eqU x) by simp, any_eqU r fs]
    exact q
  · obtain ⟨its, r, pl, hz⟩ := I.tuple hq
    refine SeqAt.in_tupleAt (eqU x) pl (fun w hw => mem_eqAt rx fx r fs w (by simpa using hw)) ⟨.bl _, H, I, rfl, ?_⟩
    rw [show its.toArray.any (eqU x) = its.any (eqU x) by simp, any_eqU r fs]
    exact q
theorem op_notIn_seq : OpR X (compareOp .NotIn) (rIn X.K true) := by
  intro pins s σ H x y v u Q I rx ry h
  obtain ⟨p, xs, rfl, hq, fx, fs, q⟩ := h
  cases ry
  rcases hq with hq | hq
  · obtain ⟨its, r, pl, hz⟩ := I.list hq
    refine SeqAt.notIn_listAt (eqU x) pl.isList (fun w hw => mem_eqAt rx fx r fs w (by simpa using hw)) ⟨.bl _, H, I, rfl, ?_⟩
    rw [show its.toArray.any (eqU x) = its.any (eqU x) by simp, any_eqU r fs]
    exact q
  · obtain ⟨its, r, pl, hz⟩ := I.tuple hq
    refine SeqAt.notIn_tupleAt (eqU x) pl (fun w hw => mem_eqAt rx fx r fs w (by simpa using hw)) ⟨.bl _, H, I, rfl, ?_⟩
    rw [show its.toArray.any (eqU x) = its.any (eqU x) by simp, any_eqU r fs]
    exact q
theorem op_notIn_str : OpR X (compareOp .NotIn) (fun x y H Q => ∃ i j, x = .str i ∧ y = .str j ∧ Q (.bl (!(!(Builtin.Str.occurrences j i 0 j.length 1).isEmpty))) H) := by
  intro pins s σ H x y v u Q I rx ry h
  obtain ⟨i, j, rfl, rfl, q⟩ := h
  obtain ⟨t, rfl⟩ := rx
  obtain ⟨t', rfl⟩ := ry
  exact notIn_str ⟨.bl _, H, I, rfl, q⟩

/-! ### len, list(x), tuple(x) of any list or tuple that is read -/
theorem call_len_seq : CallR X (.builtin "len") (fun xs H Q => ∃ p ys, xs = [.ref p] ∧ (SqL X.K H p ys ∨ SqT X.K H p ys) ∧ Q (.int ys.length) H) := by
  intro pins s σ H xs us Q I r h
  obtain ⟨p, ys, rfl, hq, q⟩ := h
  obtain ⟨u, rfl, rx⟩ := vals1 r
  cases rx
  have hn := line63
  rcases hq with hq | hq
  · obtain ⟨its, r', pl, hz⟩ := I.list hq
    have hlen := r'.length
    exact Calls.call_len_list pl.isList (by simp only [List.size_toArray] <;> omega) ⟨.int ys.length, H, I.tok _, ⟨s.toks + 1, by rw [List.size_toArray, hlen]⟩, q⟩
  · obtain ⟨its, r', pl, hz⟩ := I.tuple hq
    have hlen := r'.length
    exact len_tuple pl (by simp only [List.size_toArray] <;> omega) ⟨.int ys.length, H, I.tok _, ⟨s.toks + 1, by rw [List.size_toArray, hlen]⟩, q⟩
theorem call_len_str : CallR X (.builtin "len") (fun xs H Q => ∃ z, xs = [.str z] ∧ z.length ≤ sizeLine ∧ Q (.int z.length) H) := by
  intro pins s σ H xs us Q I r h
  obtain ⟨z, rfl, hz, q⟩ := h
  obtain ⟨u, rfl, t, rfl⟩ := vals1 r
  have hn := line63
  exact len_str (by omega) ⟨.int z.length, H, I.tok _, ⟨_, rfl⟩, q⟩
theorem CallR.or {f : Value} {r r' : List V → Hp → VK → Prop} (h : CallR X f r) (h' : CallR X f r') : CallR X f (fun xs H Q => r xs H Q ∨ r' xs H Q) := by
  intro pins s σ H xs us Q I rs q
  rcases q with q | q
  · exact h pins s σ H xs us Q I rs q
  · exact h' pins s σ H xs us Q I rs q
theorem call_list_of : CallR X (.type "list") (fun xs H Q => ∃ p ys, xs = [.ref p] ∧ (SqL X.K H p ys ∨ SqT X.K H p ys) ∧ ∀ l, H l = none → Q (.ref l) (upd H l (.lst ys))) := by
  intro pins s σ H xs us Q I r h
  obtain ⟨p, ys, rfl, hq, q⟩ := h
  obtain ⟨u, rfl, rx⟩ := vals1 r
  cases rx
  have fin : ∀ (its : List Value), Vals ys its → ys.length ≤ sizeLine → ∀ (h' : Heap) (c' : Nat), (∀ b o', s.heap.get? b = some o' → h'.get? b = some o') →
      h'.get? s.heap.objs.size = some { cls := .type "list", dict := none, data := .seq its.toArray c', slots := #[] } → EP X pins σ Q (.ref s.heap.objs.size) { s with heap := h' } := fun its r' hz h' c' kp e =>
    ⟨.ref s.heap.objs.size, _, I.laid (t' := s.toks) kp (Nat.le_refl _) (show ObjOk X.prog X.w _ h' _ (.lst ys) from ⟨hz, its, c', r', e⟩), rfl, q _ (I.hok.fresh (Nat.le_refl _))⟩
  rcases hq with hq | hq
  · obtain ⟨its, r', pl, hz⟩ := I.list hq
    have hlen := r'.length
    obtain ⟨o, ho, hc, n, hd⟩ := pl.isList
    exact call_list_seq p (.inl rfl) ho hc hd (fun h' c' kp e => fin its r' hz h' c' kp e) (by simp only [List.size_toArray] <;> omega)
  · obtain ⟨its, r', pl, hz⟩ := I.tuple hq
    have hlen := r'.length
    obtain ⟨o, ho, hc, n, hd⟩ := pl
    exact call_list_seq p (.inr rfl) ho hc hd (fun h' c' kp e => fin its r' hz h' c' kp e) (by simp only [List.size_toArray] <;> omega)
theorem call_tuple_of : CallR X (.type "tuple") (fun xs H Q => ∃ p ys, xs = [.ref p] ∧ ((SqL X.K H p ys ∧ ∀ l, H l = none → Q (.ref l) (upd H l (.tup ys))) ∨ (SqT X.K H p ys ∧ Q (.ref p) H))) := by
  intro pins s σ H xs us Q I r h
  obtain ⟨p, ys, rfl, h⟩ := h
  obtain ⟨u, rfl, rx⟩ := vals1 r
  cases rx
  rcases h with ⟨hq, q⟩ | ⟨hq, q⟩
  · obtain ⟨its, r', pl, hz⟩ := I.list hq
    have hlen := r'.length
    refine call_tuple_list pl.isList (fun h' kp => ?_) (by simp only [List.size_toArray] <;> omega)
    have I1 : Inv X pins σ H { s with heap := h' } := I.kept (t' := s.toks) kp
    have I2 : Inv X pins σ (upd H h'.objs.size (.tup ys)) { s with heap := h'.push { cls := .type "tuple", data := .seq its.toArray } } :=
      I1.laid (t' := s.toks) (fun b o e => Heap.get?_push_of_some _ e) (Nat.le_refl _) (show ObjOk X.prog X.w _ _ _ (.tup ys) from ⟨hz, its, r', IsTup.new _ _⟩)
    exact ⟨.ref h'.objs.size, _, I2, rfl, q _ (I1.hok.fresh (Nat.le_refl _))⟩
  · obtain ⟨its, r', pl, hz⟩ := I.tuple hq
    exact call_tuple_same pl ⟨.ref p, H, I, rfl, q⟩

/-! ### the call of a builtin's method: o.m(..) -/
/-- the value is of that builtin type -/
def tyV (K : PySem.W.Frag) (T : String) (x : V) (H : Hp) : Prop := match x with
  | .str _ => T = "str"
  | .int _ => T = "int"
  | .ref p => (T = "list" ∧ ∃ xs, SqL K H p xs) ∨ (T = "tuple" ∧ ∃ o, K.lookup p = some o ∧ o.cls = .type "tuple" ∧ o.dict = none) ∨
      (T = "dict" ∧ ((∃ kvs, H p = some (.dK kvs)) ∨ ∃ kvs, H p = some (.dT kvs))) ∨ (T = "set" ∧ ∃ S n, H p = some (.set S n))
  | _ => False
theorem tyV_is {pins : List (Addr × Obj)} {σ : St} {H : Hp} {s : Shared} {T : String} {x : V} {v : Value} (I : Inv X pins σ H s) (r : RelV x v) (ty : tyV X.K T x H) :
    s.TypeIs v T ∧ ∀ a, v = .ref a → ∃ ob, s.heap.get? a = some ob ∧ ob.dict = none := by
  cases x with
  | str z =>
    obtain ⟨t, rfl⟩ := r
    cases (show T = "str" from ty)
    exact ⟨typeIs_str s z t, fun _ e => nomatch e⟩
  | int i =>
    obtain ⟨t, rfl⟩ := r
    cases (show T = "int" from ty)
    exact ⟨typeIs_int s i t, fun _ e => nomatch e⟩
  | ref p =>
    cases r
    rcases ty with ⟨rfl, xs, hq⟩ | ⟨rfl, o, hk, hc, hd⟩ | ⟨rfl, hk⟩ | ⟨rfl, S, n, hk⟩
    · obtain ⟨its, _, pl, _⟩ := I.list hq
      refine ⟨pl.isList.typeIs, fun a e => ?_⟩
      cases e
      obtain ⟨o, n, e, c, hd, _⟩ := pl
      exact ⟨o, e, hd⟩
    · refine ⟨⟨o, I.kIn p o hk, hc⟩, fun a e => ?_⟩
      cases e
      exact ⟨o, I.kIn _ o hk, hd⟩
    · have z : ∃ o, s.heap.get? p = some o ∧ o.ExactDict := by
        rcases hk with ⟨kvs, hk⟩ | ⟨kvs, hk⟩
        · obtain ⟨_, _, _, _, o, _, _, e, ex, _⟩ := I.hok p _ hk
          exact ⟨o, e, ex⟩
        · obtain ⟨_, _, _, _, o, _, _, e, ex, _⟩ := I.hok p _ hk
          exact ⟨o, e, ex⟩
      obtain ⟨o, e, ex⟩ := z
      refine ⟨⟨o, e, ex.1⟩, fun a e2 => ?_⟩
      cases e2
      exact ⟨o, e, ex.2.1⟩
    · obtain ⟨o, _, _, _, e, ex, _⟩ := I.hok p _ hk
      refine ⟨⟨o, e, ex.1⟩, fun a e2 => ?_⟩
      cases e2
      exact ⟨o, e, ex.2.1⟩
  | _ => exact False.elim ty
def tBM0 (K : PySem.W.Frag) (T : String) (r : V → List V → Hp → VK → Prop) (to : TE) : TE := fun σ H Q => to σ H fun x H1 => tyV K T x H1 ∧ r x [] H1 Q
def tBM (K : PySem.W.Frag) (T : String) (r : V → List V → Hp → VK → Prop) (to : TE) (t : TA) : TE := fun σ H Q => to σ H fun x H1 => tyV K T x H1 ∧ t σ H1 fun xs H2 => r x xs H2 Q
variable {o e : Expr} {es : List Expr} {to : TE} {t : TA} {name : Str} {apos cpos : Pos} {T id : String} {r : V → List V → Hp → VK → Prop}
theorem pe_bm0 (pa : PlainAttrs T) (slot : Slot T name id) (hty : typeOf (.builtin id) = pure (.type "method_descriptor")) (hm : MtR X id r) (ho : PE X o to)
    (hbase : attributeBase o name X.env (eval o X.env) = eval o X.env := by rfl) (hline : (apos.endLine == cpos.line) = true := by rfl) : PE X (.Call (.Attribute o name apos) [] [] cpos) (tBM0 X.K T r to) := by
  intro pins s σ H Q I h
  refine wpAny_Call_method0_late hbase hline (thn (ho pins s σ H _ I h) fun v s1 ⟨x, H1, I1, r1, ty, q1⟩ => ?_)
  obtain ⟨h1, h2⟩ := tyV_is I1 r1 ty
  exact ⟨T, id, pa, slot, hty, h1, h2, Calls.callWith_builtin rfl (PySem.evalArgs_none (hm pins s1 σ H1 x [] v [] Q I1 r1 .nil q1))⟩
theorem pe_bm (pa : PlainAttrs T) (slot : Slot T name id) (hty : typeOf (.builtin id) = pure (.type "method_descriptor")) (hm : MtR X id r) (ho : PE X o to) (ha : PA X (e :: es) t)
    (hbase : attributeBase o name X.env (eval o X.env) = eval o X.env := by rfl)
    (hfew : ((backTo cpos (starEach (e :: es) X.env)).all (fun x => !x.1) && (backToKw cpos (keywordEach [] X.env)).all (fun x => x.1.isSome)
      && decide ((e :: es).length + ([] : List Keyword).length + (if ([] : List Keyword).isEmpty then 0 else 1) < 30)) = true := by rfl)
    (hline : (apos.endLine == cpos.line) = true := by rfl) (hs : starEach (e :: es) X.env = (false, eval e X.env) :: starEach es X.env := by rfl) (hplain : (backTo cpos (starEach es X.env)).any (·.1) = false := by rfl) :
    PE X (.Call (.Attribute o name apos) (e :: es) [] cpos) (tBM X.K T r to t) := by
  intro pins s σ H Q I h
  refine wpAny_Call_method_late hbase hfew hline rfl (thn (ho pins s σ H _ I h) fun v s1 ⟨x, H1, I1, r1, ty, q1⟩ => ?_)
  obtain ⟨h1, h2⟩ := tyV_is I1 r1 ty
  refine ⟨T, id, pa, slot, hty, h1, h2, ?_⟩
  have hA := ha cpos pins s1 σ H1 _ I1 q1
  rw [hs] at hA ⊢
  refine Calls.callWith_builtin (by show (false || (backTo cpos (starEach es X.env)).any (·.1)) = false; rw [hplain] <;> rfl) (Calls.evalArgs_plain ?_)
  exact thn hA fun us s2 ⟨vs, H2, I2, r2, q2⟩ => hm pins s2 σ H2 x vs v us Q I2 r1 r2 q2
/- xs.append(e), list.index on a module's tuple .. are MtR facts of 06m -/
end
end L2

namespace L2
open PySem PySem.Spec PyProof.Rows

def MtM (X : Cx) (id : String) (r : V → List V → Hp → VK → Prop) : Prop :=
  ∀ (pins : List (Addr × Obj)) (s : Shared) (σ : St) (H : Hp) (x : V) (xs : List V) (v : Value) (us : List Value) (Q : VK), Inv X pins σ H s → RelV x v → Vals xs us → r x xs H Q →
    wpAny (model X.prog X.w) X.A (call (.builtin id) (v :: us)) (EP X pins σ Q) X.xe s

/-! ### lists of values -/
theorem Vals.one : ∀ {x : V} {us : List Value}, Vals [x] us → ∃ u, us = [u] ∧ RelV x u
  | _, _, .cons r .nil => ⟨_, rfl, r⟩
theorem Vals.two : ∀ {x y : V} {us : List Value}, Vals [x, y] us → ∃ u v, us = [u, v] ∧ RelV x u ∧ RelV y v
  | _, _, _, .cons r (.cons q .nil) => ⟨_, _, rfl, r, q⟩
theorem Vals.zero : ∀ {us : List Value}, Vals [] us → us = []
  | _, .nil => rfl
theorem Vals.dropLast {xs : List V} {us : List Value} (h : Vals xs us) : Vals xs.dropLast us.dropLast := by
  induction h with
  | nil => exact .nil
  | cons r t ih =>
    cases t with
    | nil => exact .nil
    | cons q t' => exact .cons r ih
theorem Vals.eraseIdx : ∀ {xs : List V} {us : List Value} (i : Nat), Vals xs us → Vals (xs.eraseIdx i) (us.eraseIdx i)
  | _, _, _, .nil => .nil
  | _, _, 0, .cons _ t => t
  | _, _, i + 1, .cons r t => .cons r (Vals.eraseIdx i t)
theorem Vals.reverse {xs : List V} {us : List Value} (h : Vals xs us) : Vals xs.reverse us.reverse := by
  induction h with
  | nil => exact .nil
  | cons r t ih => rw [List.reverse_cons, List.reverse_cons]; exact Vals.append ih (.cons r .nil)
theorem Vals.rep {xs : List V} {us : List Value} (h : Vals xs us) : ∀ k : Nat, Vals (List.replicate k xs).flatten (List.replicate k us).flatten
  | 0 => .nil
  | k + 1 => by
    rw [List.replicate_succ, List.replicate_succ, List.flatten_cons, List.flatten_cons]
    exact Vals.append h (Vals.rep h k)
theorem erase_last {α : Type} (l : List α) : l.eraseIdx (l.length - 1) = l.dropLast := by
  induction l with
  | nil => rfl
  | cons a r ih =>
    cases r with
    | nil => rfl
    | cons b r =>
      have e : (a :: b :: r).length - 1 = ((b :: r).length - 1) + 1 := by
        have h1 : (a :: b :: r).length = r.length + 2 := rfl
        have h2 : (b :: r).length = r.length + 1 := rfl
        omega
      rw [e, List.eraseIdx_cons_succ, ih]
      all_goals rfl
theorem len_erase {α : Type} : ∀ (l : List α) (i : Nat), (l.eraseIdx i).length ≤ l.length
  | [], _ => Nat.le_refl _
  | _ :: _, 0 => Nat.le_succ _
  | _ :: r, i + 1 => Nat.succ_le_succ (len_erase r i)
theorem foldl_rep (its : List Value) : ∀ (k : Nat) (acc : List Value),
    List.foldl (fun x1 x2 => x1 ++ x2) acc.toArray (List.replicate k its.toArray) = (acc ++ (List.replicate k its).flatten).toArray
  | 0, acc => by simp
  | k + 1, acc => by
    have e : acc.toArray ++ its.toArray = (acc ++ its).toArray := by simp
    have e2 : (acc ++ its) ++ (List.replicate k its).flatten = acc ++ (List.replicate (k + 1) its).flatten := by
      rw [List.replicate_succ, List.flatten_cons, List.append_assoc]
    rw [← e2, ← foldl_rep its k (acc ++ its), ← e, List.replicate_succ, List.foldl_cons]

section
variable {X : Cx} {pins : List (Addr × Obj)} {σ : St} {H : Hp} {s : Shared} {l b : Addr} {xs ys zs : List V}

/-! ### the two steps: a tracked list is rewritten, a new list is laid -/
theorem Inv.lset {its its' : List Value} {n : Nat} {f : Array Value → Array Value} {t' : Nat} (I : Inv X pins σ H s) (hH : H l = some (.lst xs))
    (e : s.heap.get? l = some { cls := .type "list", data := .seq its.toArray n }) (hf : f its.toArray = its'.toArray) (hv : Vals ys its') (hz : ys.length ≤ sizeLine) :
    Inv X pins σ (upd H l (.lst ys)) { s with heap := s.heap.update l (Obj.mapSeq f), toks := t' } := by
  have q := PySem.IsL.update e f
  rw [hf] at q
  refine I.write (x := l) (e := l) (by rw [hH]; exact trivial) (.inl rfl) (fun b' u hb hu => (Heap.get?_update_other s.heap (Obj.mapSeq f) (Ne.symm hb)).trans hu) ⟨_, q⟩ ?_
  exact ⟨hz, its', _, hv, q⟩
theorem Inv.lnew {its : List Value} {t' : Nat} (I : Inv X pins σ H s) (hv : Vals ys its) (hz : ys.length ≤ sizeLine) :
    Inv X pins σ (upd H s.heap.objs.size (.lst ys)) { s with heap := s.heap.push { cls := .type "list", data := .seq its.toArray }, toks := t' } :=
  I.laid (fun _ _ q => Heap.get?_push_of_some _ q) (Nat.le_refl _) ⟨hz, its, 0, hv, Heap.get?_push_size _ rfl⟩
theorem Inv.fresh (I : Inv X pins σ H s) : H s.heap.objs.size = none := I.hok.fresh (Nat.le_refl _)
theorem Inv.lstM (I : Inv X pins σ H s) (hH : H l = some (.lst xs)) : xs.length ≤ sizeLine ∧ ∃ (its : List Value) (n : Nat), Vals xs its ∧ xs.length = its.length ∧ s.heap.get? l = some { cls := .type "list", data := .seq its.toArray n } := by
  obtain ⟨z, its, n, r, e⟩ := I.hok l _ hH
  exact ⟨z, its, n, r, r.length, e⟩

theorem notLongL {n : Nat} (h : n ≤ sizeLine) : Builtin.List.listTooLong n = false := by
  unfold Builtin.List.listTooLong
  exact decide_eq_false (by omega)
end

section
variable {X : Cx}

/-! ### methods -/
def rAppend : V → List V → Hp → VK → Prop := fun x vs H Q => ∃ l xs y, x = .ref l ∧ vs = [y] ∧ H l = some (.lst xs) ∧ xs.length < sizeLine ∧ Q .non (upd H l (.lst (xs ++ [y])))
theorem mt_append : MtM X "list.append" rAppend := by
  intro pins s σ H x vs v us Q I rx rv h
  obtain ⟨l, xs, y, rfl, rfl, hH, hz, q⟩ := h
  cases rx
  obtain ⟨u, rfl, ru⟩ := rv.one
  obtain ⟨z, its, n, r, hl, e⟩ := I.lstM hH
  refine call_meets F.slot_list_append ⟨_, e, rfl⟩ F.entry_list_append (F.args_list_append_2 _ _) (PySem.list_append l its.toArray n u (by rw [List.size_toArray]; omega)) ⟨e, ?_⟩
  refine ⟨.non, _, I.lset (its' := its ++ [u]) hH e (by simp) (r.append (.cons ru .nil)) ?_, rfl, q⟩
  rw [List.length_append, List.length_singleton]
  omega

def rExtend : V → List V → Hp → VK → Prop := fun x vs H Q => ∃ l b xs zs, x = .ref l ∧ vs = [.ref b] ∧ H l = some (.lst xs) ∧ H b = some (.lst zs) ∧ xs.length + zs.length ≤ sizeLine ∧ Q .non (upd H l (.lst (xs ++ zs)))
theorem mt_extend : MtM X "list.extend" rExtend := by
  intro pins s σ H x vs v us Q I rx rv h
  obtain ⟨l, b, xs, zs, rfl, rfl, hH, hB, hz, q⟩ := h
  cases rx
  obtain ⟨u, rfl, ru⟩ := rv.one
  cases ru
  obtain ⟨z, its, n, r, hl, e⟩ := I.lstM hH
  obtain ⟨z2, its2, n2, r2, hl2, e2⟩ := I.lstM hB
  have hsz : its.toArray.size + its2.toArray.size ≤ sizeLine := by rw [List.size_toArray, List.size_toArray]; omega
  have hlong : ¬ (!its.toArray.isEmpty && Builtin.List.listTooLong (its.toArray.size + its2.toArray.size)) = true := by
    rw [notLongL hsz, Bool.and_false]
    exact Bool.false_ne_true
  refine call_meets F.slot_list_extend ⟨_, e, rfl⟩ F.entry_list_extend (F.args_list_extend_2 _ _)
    (AutoSeq1.list_extend_list_list_0 l its.toArray n b its2.toArray n2 hlong (by rw [List.size_toArray]; omega) (by omega)) ⟨e, e2, ?_⟩
  refine ⟨.non, _, I.lset (its' := its ++ its2) hH e (by simp) (r.append r2) ?_, rfl, q⟩
  rw [List.length_append]
  omega

def rPop : V → List V → Hp → VK → Prop := fun x vs H Q => ∃ l xs y, x = .ref l ∧ vs = [] ∧ H l = some (.lst xs) ∧ xs[xs.length - 1]? = some y ∧ Q y (upd H l (.lst xs.dropLast))
theorem mt_pop : MtM X "list.pop" rPop := by
  intro pins s σ H x vs v us Q I rx rv h
  obtain ⟨l, xs, y, rfl, rfl, hH, hy, q⟩ := h
  cases rx
  have hus := rv.zero
  subst hus
  obtain ⟨z, its, n, r, hl, e⟩ := I.lstM hH
  obtain ⟨u, hu, ru⟩ := r.get hy
  have hy' : its.toArray[its.toArray.size - 1]? = some u := by
    show its.toArray[its.length - 1]? = some u
    rw [← Array.getElem?_toList, ← hl]
    exact hu
  refine call_meets F.slot_list_pop ⟨_, e, rfl⟩ F.entry_list_pop (F.args_list_pop_1 _) (MeetsSeq.list_pop_last l its.toArray n u hy' (by rw [List.size_toArray]; omega)) ⟨e, ?_⟩
  refine ⟨y, _, I.lset (its' := its.dropLast) hH e ?_ r.dropLast ?_, ru, q⟩
  · show its.toArray.eraseIdxIfInBounds (its.toArray.size - 1) = its.dropLast.toArray
    rw [List.size_toArray, List.eraseIdxIfInBounds_toArray, erase_last]
  · rw [List.length_dropLast]
    omega

def rPopAt : V → List V → Hp → VK → Prop := fun x vs H Q => ∃ l xs i k y, x = .ref l ∧ vs = [.int i] ∧ H l = some (.lst xs) ∧ -(2 ^ 63) ≤ i ∧ i < 2 ^ 63 ∧ seqIndex? i xs.length = some k ∧ xs[k]? = some y ∧ Q y (upd H l (.lst (xs.eraseIdx k)))
theorem mt_popAt : MtM X "list.pop" rPopAt := by
  intro pins s σ H x vs v us Q I rx rv h
  obtain ⟨l, xs, i, k, y, rfl, rfl, hH, h1, h2, hk, hy, q⟩ := h
  cases rx
  obtain ⟨u, rfl, ru⟩ := rv.one
  obtain ⟨t, rfl⟩ := ru
  obtain ⟨z, its, n, r, hl, e⟩ := I.lstM hH
  obtain ⟨w, hw, rw'⟩ := r.get hy
  refine call_meets F.slot_list_pop ⟨_, e, rfl⟩ F.entry_list_pop (F.args_list_pop_2 _ _)
    (MeetsSeq.list_pop_at l its.toArray n i t k w (fitsIndex_both h1 h2) (by rw [List.size_toArray, ← hl]; exact hk) (by rw [← Array.getElem?_toList]; exact hw) (by rw [List.size_toArray]; omega)) ⟨e, ?_⟩
  refine ⟨y, _, I.lset (its' := its.eraseIdx k) hH e ?_ (r.eraseIdx k) ?_, rw', q⟩
  · show its.toArray.eraseIdxIfInBounds k = (its.eraseIdx k).toArray
    rw [List.eraseIdxIfInBounds_toArray]
  · have := len_erase xs k
    omega

def rReverse : V → List V → Hp → VK → Prop := fun x vs H Q => ∃ l xs, x = .ref l ∧ vs = [] ∧ H l = some (.lst xs) ∧ Q .non (upd H l (.lst xs.reverse))
theorem mt_reverse : MtM X "list.reverse" rReverse := by
  intro pins s σ H x vs v us Q I rx rv h
  obtain ⟨l, xs, rfl, rfl, hH, q⟩ := h
  cases rx
  have hus := rv.zero
  subst hus
  obtain ⟨z, its, n, r, hl, e⟩ := I.lstM hH
  refine call_meets F.slot_list_reverse ⟨_, e, rfl⟩ F.entry_list_reverse (F.args_list_reverse_1 _) (AutoSeq1.list_reverse_list_0 l its.toArray n (by rw [List.size_toArray]; omega)) ⟨e, ?_⟩
  refine ⟨.non, _, I.lset (its' := its.reverse) hH e (by simp) r.reverse ?_, rfl, q⟩
  rw [List.length_reverse]
  omega

def rClear : V → List V → Hp → VK → Prop := fun x vs H Q => ∃ l xs, x = .ref l ∧ vs = [] ∧ H l = some (.lst xs) ∧ Q .non (upd H l (.lst []))
theorem mt_clear : MtM X "list.clear" rClear := by
  intro pins s σ H x vs v us Q I rx rv h
  obtain ⟨l, xs, rfl, rfl, hH, q⟩ := h
  cases rx
  have hus := rv.zero
  subst hus
  obtain ⟨z, its, n, r, hl, e⟩ := I.lstM hH
  refine call_meets F.slot_list_clear ⟨_, e, rfl⟩ F.entry_list_clear (F.args_list_clear_1 _) (AutoSeq1.list_clear_list_0 l its.toArray n (by rw [List.size_toArray]; omega)) ⟨e, ?_⟩
  exact ⟨.non, _, I.lset (its' := []) (ys := []) hH e rfl .nil (Nat.zero_le _), rfl, q⟩

/-! ### list + list, list += list, list * int -/
def rCat : R2 := fun x y H Q => ∃ l b xs zs, x = .ref l ∧ y = .ref b ∧ H l = some (.lst xs) ∧ H b = some (.lst zs) ∧ xs.length + zs.length ≤ sizeLine ∧ ∀ p, H p = none → Q (.ref p) (upd H p (.lst (xs ++ zs)))
theorem op_cat : OpR X (binaryOp .Add) rCat := by
  intro pins s σ H x y v u Q I rx ry h
  obtain ⟨l, b, xs, zs, rfl, rfl, hH, hB, hz, q⟩ := h
  cases rx
  cases ry
  obtain ⟨z, its, n, r, hl, e⟩ := I.lstM hH
  obtain ⟨z2, its2, n2, r2, hl2, e2⟩ := I.lstM hB
  refine PySem.P.add_list e e2 ?_ (by rw [List.size_toArray, List.size_toArray]; omega)
  have ea : its.toArray ++ its2.toArray = (its ++ its2).toArray := by simp
  rw [ea]
  exact ⟨.ref _, _, I.lnew (t' := s.toks) (r.append r2) (by rw [List.length_append]; omega), rfl, q _ I.fresh⟩
/-- a list times an int (a negative one is nothing) -/
def rRep : R2 := fun x y H Q => ∃ l k xs, x = .ref l ∧ y = .int k ∧ H l = some (.lst xs) ∧ -(2 ^ 63) ≤ k ∧ k < 2 ^ 63 ∧ xs.length * k.toNat ≤ sizeLine ∧
  ∀ p, H p = none → Q (.ref p) (upd H p (.lst (List.replicate k.toNat xs).flatten))
theorem len_rep {α : Type} (xs : List α) (k : Nat) : (List.replicate k xs).flatten.length = k * xs.length := by
  induction k with
  | zero => simp
  | succ k ih => rw [List.replicate_succ, List.flatten_cons, List.length_append, ih, Nat.succ_mul, Nat.add_comm]
theorem op_rep : OpR X (binaryOp .Mult) rRep := by
  intro pins s σ H x y v u Q I rx ry h
  obtain ⟨l, k, xs, rfl, rfl, hH, h1, h2, hz, q⟩ := h
  cases rx
  obtain ⟨t, rfl⟩ := ry
  obtain ⟨z, its, n, r, hl, e⟩ := I.lstM hH
  have hlen : its.toArray.size * k.toNat ≤ sizeLine := by rw [List.size_toArray, ← hl]; exact hz
  have hcap : ¬ its.toArray.size * k.toNat > (2 ^ 63 - 1) / 8 := by
    have : (sizeLine : Nat) ≤ (2 ^ 63 - 1) / 8 := by decide
    omega
  have hfit : ¬ (!Builtin.List.listFitsIndex k) = true := by
    rw [fitsIndex_both h1 h2]
    exact Bool.false_ne_true
  have hlong : ¬ Builtin.List.listTooLong (its.toArray.size * k.toNat) = true := by
    rw [notLongL hlen]
    exact Bool.false_ne_true
  have hnew : List.foldl (fun x1 x2 => x1 ++ x2) #[] (List.replicate (if its.toArray.isEmpty = true then 0 else k.toNat) its.toArray) = (List.replicate k.toNat its).flatten.toArray := by
    have f0 : ∀ m : Nat, List.foldl (fun x1 x2 => x1 ++ x2) #[] (List.replicate m its.toArray) = (List.replicate m its).flatten.toArray := fun m => by
      have := foldl_rep its m []
      rw [List.nil_append] at this
      exact this
    rw [f0]
    cases its with
    | nil => simp
    | cons a r' => rw [if_neg (by simp)]
  refine wpAny_binaryOp_repeat_ref (T := "list") (U := "int") (by decide) ⟨_, e, rfl⟩ (fun s' => typeIs_int s' k t) noFill_list_mul F.fills_int_mul F.slot_int_rmul repeat_list F.slot_int_index.lookup
    (call_meets F.slot_int_rmul (typeIs_int s k t) F.entry_int_rmul (F.args_int_rmul_2 _ _) (int___rmul___int_list k t l its.toArray n)
      ⟨e, rfl, ⟨_, e, rfl⟩, call_meets F.slot_list_mul ⟨_, e, rfl⟩ F.entry_list_mul (F.args_list_mul_2 _ _) (AutoListH.list___mul___list_int_3 l its.toArray n k t hfit hcap hlong) ⟨e, ?_⟩⟩)
  rw [hnew]
  exact ⟨.ref _, _, I.lnew (t' := s.toks) (r.rep k.toNat) (by rw [len_rep, Nat.mul_comm]; exact hz), rfl, q _ I.fresh⟩

/-! ### del xs[i] -/
theorem del_list {pins : List (Addr × Obj)} {s : Shared} {σ : St} {H : Hp} {l : Addr} {xs : List V} {i : Int} {t : Tok} {k : Nat} {Q : Unit → Shared → Prop} (I : Inv X pins σ H s) (hH : H l = some (.lst xs))
    (h1 : -(2 ^ 63) ≤ i) (h2 : i < 2 ^ 63) (hk : seqIndex? i xs.length = some k) (h : ∀ s', Inv X pins σ (upd H l (.lst (xs.eraseIdx k))) s' → Q () s') :
    wpAny (model X.prog X.w) X.A (delItem (.ref l) (.int i t)) Q X.xe s := by
  obtain ⟨z, its, n, r, hl, e⟩ := I.lstM hH
  refine PySem.P.delItem_list (k := k) e (fitsIndex_both h1 h2) (by rw [List.size_toArray, ← hl]; exact hk) (h _ ?_) (by rw [List.size_toArray]; omega)
  refine I.lset (its' := its.eraseIdx k) (t' := s.toks) hH e ?_ (r.eraseIdx k) ?_
  · show its.toArray.eraseIdxIfInBounds k = (its.eraseIdx k).toArray
    rw [List.eraseIdxIfInBounds_toArray]
  · have := len_erase xs k
    omega
end

/-! ### xs[a:b] = ys -/
section
variable {prog : Program} {w : World} {A : Around} {E : Value → Shared → Prop} {s : Shared}
theorem splice_eq (its its2 : List Value) (a c : Nat) : its.toArray.extract 0 a ++ its2.toArray ++ its.toArray.extract c its.toArray.size = (its.take a ++ its2 ++ its.drop c).toArray := by
  apply Array.toList_inj.mp
  first
    | (simp
       exact List.take_of_length_le (by simp))
    | simp [List.take_of_length_le]
    | simp
theorem bounds_run {a c n : Nat} (hac : a ≤ c) (hc : c ≤ n) : sliceBounds (some (a : Int)) (some (c : Int)) none n = ((a : Int), (c : Int), 1) := by
  simp only [sliceBounds, Option.getD_none]
  have h1 : ¬ ((a : Int) < 0) := by omega
  have h2 : ¬ ((c : Int) < 0) := by omega
  simp only [h1, h2, if_false, show (1 : Int) > 0 by decide, if_true]
  congr 1
  · omega
  · congr 1; omega
set_option maxRecDepth 100000 in
/-- list.__setitem__ with a slice of step one and another list -/
theorem setItem_slice {l b sl : Addr} {items new : Array Value} {n n2 : Nat} {vl vu : Value} {a c : Nat} {Q : Unit → Shared → Prop}
    (e : s.heap.get? l = some { cls := .type "list", data := .seq items n }) (e2 : s.heap.get? b = some { cls := .type "list", data := .seq new n2 }) (hne : l ≠ b)
    (hs : s.heap.IsSliceOf sl vl vu .none) (pl : IsPart vl (some (a : Int))) (pu : IsPart vu (some (c : Int))) (hac : a ≤ c) (hc : c ≤ items.size)
    (hsz : items.size + new.size ≤ sizeLine) (h : Q () { s with heap := s.heap.update l (Obj.mapSeq fun xs => xs.extract 0 a ++ new ++ xs.extract c xs.size) }) :
    wpAny (model prog w) A (setItem (.ref l) (.ref sl) (.ref b)) Q E s := by
  have hl : s.heap.IsList l items := PySem.IsL.isList e
  have hb : s.heap.IsList b new := PySem.IsL.isList e2
  obtain ⟨os, hos, hcs, hds⟩ := id hs
  have hTs : s.TypeIs (.ref sl) "slice" := ⟨os, hos, hcs⟩
  have hstep : ¬ ((rawPart none == rawInt 0) = true) := Bool.false_ne_true
  have hsame : Builtin.List.listSameRef (.ref l) (.ref b) = false := by
    unfold Builtin.List.listSameRef
    exact beq_eq_false_iff_ne.mpr hne
  have hmax : (max (a : Int) (c : Int)).toNat = c := by omega
  have hz' : ((fun xs : Array Value => xs.extract 0 a ++ new ++ xs.extract c xs.size) items).size ≤ sizeLine + 1 := by
    simp only [Array.size_append, Array.size_extract]
    omega
  unfold setItem
  try with_reducible refine wpAny_holding ?_
  first | refine wpAny_bind (wpAny_pure ?_) | skip
  refine wpAny_bind (wpAny_sequenceKey hl.typeIs (by decide) ?_)
  refine wpAny_bind (wpAny_callSpecial?_slot (name := Str.ofString "__setitem__") hl.typeIs slot_list_setitem
    (wpAny_call_entry slot_list_setitem hl.typeIs entry_list_setitem ?_ (args_list_setitem _ _ _)))
  show wpAny _ _ (Builtin.List.listSubscript? (.ref sl) >>= _) _ _ s
  refine wpAny_bind ?_
  unfold Builtin.List.listSubscript?
  refine wpAny_bind (wpAny_specialOf hTs slice_no_index ?_)
  simp only [Option.isNone_none, if_true]
  refine wpAny_pure ?_
  show wpAny _ _ (typeOf (.ref sl) >>= _) _ _ s
  refine wpAny_bind (wpAny_typeOf hTs ?_)
  first
    | rw [if_neg (by decide)]
    | refine PySem.W.KFB.if_not (by decide) ?_
  rw [listSliceParts_eq]
  refine wpAny_bind (wpAny_bind (wpAny_field hos hds (x := .none) rfl (wpAny_bind (wpAny_listPart .none ?_))))
  rw [if_neg hstep]
  refine wpAny_bind (wpAny_field hos hds (x := vl) rfl (wpAny_bind (wpAny_listPart pl ?_)))
  refine wpAny_bind (wpAny_field hos hds (x := vu) rfl (wpAny_bind (wpAny_listPart pu (wpAny_pure ?_))))
  first
    | simp only [hsame, Bool.false_eq_true, if_false]
    | refine PySem.W.KFB.if_not hsame ?_
    | (dsimp only
       rw [if_neg (by rw [hsame]; exact Bool.false_ne_true)])
  refine wpAny_bind (m := Builtin.List.listAllItems (.ref b) "must assign iterable to extended slice") ?_
  unfold Builtin.List.listAllItems
  refine wpAny_bind (wpAny_typeOf hb.typeIs ?_)
  first
    | refine PySem.W.KFB.if_so (by decide) ?_
    | rw [if_pos (by decide)]
    | simp only [beq_self_eq_true, Bool.true_or, if_true]
  unfold Builtin.List.listItems
  refine wpAny_bind (wpAny_seqItems e2 rfl (wpAny_pure ?_))
  refine wpAny_bind (wpAny_bind (wpAny_seqItems e rfl (wpAny_pure ?_)))
  refine wpAny_bind (wpAny_of_eq ((sliceIndices_raw (some (a : Int)) (some (c : Int)) none items.size (by simp)).trans (congrArg (pure : Int × Int × Int → Sem (Int × Int × Int)) (bounds_run hac hc))) ?_)
  show wpAny _ _ (if ((1 : Int) == 1) = true then _ else _) _ _ s
  rw [if_pos (by decide)]
  refine wpAny_bind (wpAny_rule ?_)
  first
    | simp only [notLongL hsz, Bool.false_eq_true, if_false]
    | refine PySem.W.KFB.if_not (notLongL hsz) ?_
  first | refine wpAny_bind (wpAny_pure ?_) | skip
  show wpAny _ _ (updateSeq l (fun xs => xs.extract 0 ((a : Int)).toNat ++ new ++ xs.extract (max (a : Int) (c : Int)).toNat xs.size) >>= _) _ _ s
  rw [hmax, Int.toNat_natCast]
  refine wpAny_bind (wpAny_updateSeq (hz := Nat.le_trans (Nat.le_add_right _ _) hsz) (_hz' := hz') e rfl ?_)
  refine wpAny_bind (wpAny_letGo ?_)
  first
    | exact wpAny_bind (wpAny_pure (wpAny_pure ⟨.none, rfl, wpAny_pure h⟩))
    | exact wpAny_pure ⟨.none, rfl, wpAny_pure h⟩
end

section
variable {X : Cx}
/-- xs[a:c] = ys of another list, at the value level: sl is the slice object that was just made -/
theorem set_slice {pins : List (Addr × Obj)} {s : Shared} {σ : St} {H : Hp} {l b sl : Addr} {xs ys : List V} {a c : Int} {vl vu : Value} {Q : Unit → Shared → Prop} (I : Inv X pins σ H s)
    (hH : H l = some (.lst xs)) (hB : H b = some (.lst ys)) (hne : l ≠ b) (hs : s.heap.IsSliceOf sl vl vu .none) (ra : RelV (.int a) vl) (rc : RelV (.int c) vu) (h0 : 0 ≤ a) (hac : a ≤ c) (hc : c ≤ xs.length)
    (hz : xs.length + ys.length ≤ sizeLine) (h : ∀ s', Inv X pins σ (upd H l (.lst (xs.take a.toNat ++ ys ++ xs.drop c.toNat))) s' → Q () s') :
    wpAny (model X.prog X.w) X.A (setItem (.ref l) (.ref sl) (.ref b)) Q X.xe s := by
  obtain ⟨ta, rfl⟩ := ra
  obtain ⟨tc, rfl⟩ := rc
  obtain ⟨z, its, n, r, hl, e⟩ := I.lstM hH
  obtain ⟨z2, its2, n2, r2, hl2, e2⟩ := I.lstM hB
  obtain ⟨a', rfl⟩ := Int.eq_ofNat_of_zero_le h0
  obtain ⟨c', rfl⟩ := Int.eq_ofNat_of_zero_le (Int.le_trans h0 hac)
  simp only [Int.toNat_natCast] at h
  refine setItem_slice (a := a') (c := c') e e2 hne hs (.int _ _) (.int _ _) (by omega) (by rw [List.size_toArray]; omega) (by rw [List.size_toArray, List.size_toArray]; omega) (h _ ?_)
  refine I.lset (its' := its.take a' ++ its2 ++ its.drop c') (t' := s.toks) hH e ?_ (Vals.append (Vals.append (r.take _) r2) (r.drop _)) ?_
  · exact splice_eq its its2 a' c'
  · rw [List.length_append, List.length_append, List.length_take, List.length_drop]
    omega
end
end L2

namespace Att
open PySem PySem.W PySem.Calls PyProof.Rows

/-! ### the script -/
theorem ints_of_wellAll {P : Params} {h : Heap} : ∀ (ns : List Int) (vs : List Value), WellAll P h vs (ns.map WData.int) → IntsAre vs ns := by
  intro ns
  induction ns with
  | nil =>
    intro vs w
    rw [List.map_nil] at w
    cases w
    exact .nil
  | cons n ns ih =>
    intro vs w
    rw [List.map_cons] at w
    cases w with
    | cons a b =>
      cases a
      exact .cons _ _ (ih _ b)

theorem script_of {l : OpenLaw} {n : Nat} (hn : l.most = some n) {P : Params} {h : Heap} {args : List WData} {vals : List Value}
    (hpre : l.row.toRowW.claim.pre args = true) (hwl : WellAll P h vals args) :
    ∃ a vs ns, vals = [Value.ref a] ∧ args = [WData.list (ns.map WData.int)] ∧ h.get? a = some { cls := .type "list", data := .seq vs.toArray } ∧ IntsAre vs ns ∧ ns.length ≤ n := by
  have hsh : WShape.hasAll [] args [.list .int] = true := (pre_splitW hpre).1
  have hc : l.pre.holds [] { args := args } = true := (pre_splitW hpre).2
  obtain ⟨d, r, rfl, h1, h2⟩ := hasAllW_cons hsh
  obtain rfl := hasAllW_nil h2
  obtain ⟨xs, rfl, h3⟩ := hasW_list h1
  obtain ⟨ns, rfl⟩ := items_int h3
  have hlen : ns.length ≤ n := by
    unfold OpenLaw.pre at hc
    have h4 : (WTm.not (.lt (.lit (.int (n : Int))) (.len (.arg 0)))).holds [] { args := [.list (ns.map .int)] } = true := by
      have h4 := (holds_andW hc).1
      rw [hn] at h4
      exact h4
    have h5 := condW_of h4 (w_not (w_lt w_lit (w_len_list (w_arg rfl))))
    rw [List.length_map] at h5
    refine Nat.le_of_not_lt fun q => ?_
    have q' : (n : Int) < ((ns.length : Nat) : Int) := by omega
    first
      | (rw [decide_eq_true q'] at h5; exact absurd h5 (by decide))
      | (simp at h5; omega)
  cases hwl with
  | cons w1 w2 =>
    cases w2
    cases w1 with
    | list ho hall => exact ⟨_, _, ns, rfl, rfl, ho, ints_of_wellAll ns _ hall, hlen⟩

theorem post_true (l : OpenLaw) (args : List WData) : l.row.toRowW.claim.post args (.bool true) args = true :=
  postW_of (r := l.row.toRowW) (X := (true == true))
    (show WShape.has [] (.bool true) .bool = true by first | rfl | decide | simp [WShape.has, WShape.arms, WShape.armsAll])
    (show (WTm.eq .res (.lit (.bool true))).value [] { args := args, res := some (.bool true), after := args } = some (.bool (true == true)) from w_eq_bool (w_res rfl) w_lit) rfl

/-! ### the attachment: holds_open's last premise (the goal 'hc' behind k_head) from a wpAny of the law's body -/
theorem attach {l : OpenLaw} {n : Nat} {q : Program} {loose : List Str} {XP : (Str → Option Value) → Heap → Prop} {YP : World → Heap → Prop} {d : DefRec} {x : Str}
    (hn : l.most = some n) (hdf : d.params.defaults = [])
    (hbind : ∀ pm cd doc v : Value, bindArgs (docDef d.name d.params d.body d.scope pm cd doc) ⟨[v], []⟩ = pure [(x, v)])
    (hx : d.scope.names.lookup x = some .local ∨ d.scope.names.lookup x = some .cell)
    (hk : d.scope.kind = .function) (hco : d.scope.isCoroutine = false) (hgen : d.scope.isGenerator = false)
    (body : ∀ (w : World) (s₀ s₁ s : Shared) (mg mb : Str → Option Value) (fa : Addr) (o : Obj) (pm cd doc : Value) (a : Addr) (vs : List Value) (ns : List Int),
      Ground q loose [] XP w s₀ mg mb s₁.heap → YP w s₁.heap →
      s₁.heap.get? fa = some o → o.data = .func (docDef d.name d.params d.body d.scope pm cd doc) → s₁.heap.CodeRec cd d.name → mg d.name = some (.ref fa) →
      s₁.heap.get? a = some { cls := .type "list", data := .seq vs.toArray } → IntsAre vs ns → ns.length ≤ n →
      s.gens = #[] → s.os = s₁.os →
      Fr s₁.heap s₁.heap.objs.size s.heap (bindL (envOfC d.name d.scope s₁.heap.objs.size fa cd).kindOf [(x, .ref a)] fun _ => none) →
      Cl s₁.heap.objs.size (cellsFrom (s₁.heap.objs.size + 1) d.scope.names []) s.heap (bindC (envOfC d.name d.scope s₁.heap.objs.size fa cd).kindOf [(x, .ref a)] fun _ => none) →
      wpAny (model l.prog w) (callerA.deeper (envOfC d.name d.scope s₁.heap.objs.size fa cd)) (execs d.body (envOfC d.name d.scope s₁.heap.objs.size fa cd))
        (fun f s' => f = .ret (.bool true) ∧ OldK s₁.heap s'.heap ∧ s'.os = s₁.os ∧ AllBare s'.gens) (fun _ _ => False) s) :
    WalkO q loose XP YP l.row.toRowW d [] (fun f vs => PySem.call f vs) := by
  intro w s₀ s₁ mg mb G Y fa o pm cd doc dV kV ho hd hcd hD hmg hg args vals as hpre hlay hrd hwl hlo
  obtain rfl : dV = .none := Dflts.none hD hdf
  obtain rfl : kV = .none := Dflts.noKw hD
  obtain ⟨a, vs, ns, rfl, rfl, hobj, hints, hlen⟩ := script_of hn hpre hwl
  refine enter_call ?_
  refine call_cells_ret (o := o) (by rw [depth_caller]; decide) ho (fd_plain hd) G.T.nolimit hcd (hbind pm cd doc (.ref a)) (fun y hy => ?_) (fun h₁ tk F X => ?_) hco hgen hk
  · obtain rfl : y = (x, Value.ref a) := List.mem_singleton.mp hy
    rcases hx with e | e
    · exact .inl e
    · exact .inr ⟨e, cellsFrom_some _ _ _ (.inl e)⟩
  · refine wpAny_mono (body w s₀ s₁ { s₁ with heap := h₁, toks := tk } mg mb fa o pm cd doc a vs ns G Y ho (fd_plain hd) hcd hmg hobj hints hlen hg rfl F X) (fun f s' hq => ?_) (fun _ _ hq => hq)
    obtain ⟨rfl, h2, h3, h4⟩ := hq
    exact ⟨.inl ⟨.bool true, .bool true, [], rfl, fun _ => rfl, .bool true, post_true l _, fun _ => ⟨List.Pairwise.nil, fun _ hm => (nomatch hm)⟩⟩, h2, h3, h4⟩

/-- the same from a codeAny of the CALL (for a layer whose function contracts speak of calls) -/
theorem attach_call {l : OpenLaw} {n : Nat} {q : Program} {loose : List Str} {XP : (Str → Option Value) → Heap → Prop} {YP : World → Heap → Prop} {d : DefRec}
    (hn : l.most = some n) (hdf : d.params.defaults = [])
    (call : ∀ (w : World) (s₀ s₁ : Shared) (mg mb : Str → Option Value) (fa : Addr) (o : Obj) (pm cd doc : Value) (a : Addr) (vs : List Value) (ns : List Int),
      Ground q loose [] XP w s₀ mg mb s₁.heap → YP w s₁.heap →
      s₁.heap.get? fa = some o → o.data = .func (docDef d.name d.params d.body d.scope pm cd doc) → s₁.heap.CodeRec cd d.name → mg d.name = some (.ref fa) →
      s₁.heap.get? a = some { cls := .type "list", data := .seq vs.toArray } → IntsAre vs ns → ns.length ≤ n → s₁.gens = #[] →
      codeAny (model l.prog w) callerA (.call (.ref fa) ⟨[.ref a], []⟩) (fun r s' => r = .ok (.ret (.bool true)) ∧ OldK s₁.heap s'.heap ∧ s'.os = s₁.os ∧ AllBare s'.gens) s₁) :
    WalkO q loose XP YP l.row.toRowW d [] (fun f vs => PySem.call f vs) := by
  intro w s₀ s₁ mg mb G Y fa o pm cd doc dV kV ho hd hcd hD hmg hg args vals as hpre hlay hrd hwl hlo
  obtain rfl : dV = .none := Dflts.none hD hdf
  obtain rfl : kV = .none := Dflts.noKw hD
  obtain ⟨a, vs, ns, rfl, rfl, hobj, hints, hlen⟩ := script_of hn hpre hwl
  refine enter_call (codeAny_mono (call w s₀ s₁ mg mb fa o pm cd doc a vs ns G Y ho (fd_plain hd) hcd hmg hobj hints hlen hg) fun r s' hq => ?_)
  obtain ⟨rfl, h2, h3, h4⟩ := hq
  exact ⟨.inl ⟨.bool true, .bool true, [], rfl, fun _ => rfl, .bool true, post_true l _, fun _ => ⟨List.Pairwise.nil, fun _ hm => (nomatch hm)⟩⟩, h2, h3, h4⟩

/-- the same where the top left finished generators (o_head chose holds_openN): nothing may have changed at all and no generator may be left -/
theorem attachN {l : OpenLaw} {n : Nat} {q : Program} {loose : List Str} {XP : (Str → Option Value) → Heap → Prop} {YP : World → Heap → Prop} {d : DefRec} {x : Str}
    (hn : l.most = some n) (hdf : d.params.defaults = [])
    (hbind : ∀ pm cd doc v : Value, bindArgs (docDef d.name d.params d.body d.scope pm cd doc) ⟨[v], []⟩ = pure [(x, v)])
    (hx : d.scope.names.lookup x = some .local ∨ d.scope.names.lookup x = some .cell)
    (hk : d.scope.kind = .function) (hco : d.scope.isCoroutine = false) (hgen : d.scope.isGenerator = false)
    (body : ∀ (w : World) (s₀ s₁ s : Shared) (mg mb : Str → Option Value) (fa : Addr) (o : Obj) (pm cd doc : Value) (a : Addr) (vs : List Value) (ns : List Int),
      Ground q loose [] XP w s₀ mg mb s₁.heap → YP w s₁.heap →
      s₁.heap.get? fa = some o → o.data = .func (docDef d.name d.params d.body d.scope pm cd doc) → s₁.heap.CodeRec cd d.name → mg d.name = some (.ref fa) →
      s₁.heap.get? a = some { cls := .type "list", data := .seq vs.toArray } → IntsAre vs ns → ns.length ≤ n →
      s.gens = #[] → s.os = s₁.os →
      Fr s₁.heap s₁.heap.objs.size s.heap (bindL (envOfC d.name d.scope s₁.heap.objs.size fa cd).kindOf [(x, .ref a)] fun _ => none) →
      Cl s₁.heap.objs.size (cellsFrom (s₁.heap.objs.size + 1) d.scope.names []) s.heap (bindC (envOfC d.name d.scope s₁.heap.objs.size fa cd).kindOf [(x, .ref a)] fun _ => none) →
      wpAny (model l.prog w) (callerA.deeper (envOfC d.name d.scope s₁.heap.objs.size fa cd)) (execs d.body (envOfC d.name d.scope s₁.heap.objs.size fa cd))
        (fun f s' => f = .ret (.bool true) ∧ (∀ b o, s₁.heap.get? b = some o → s'.heap.get? b = some o) ∧ s'.os = s₁.os ∧ s'.gens = #[]) (fun _ _ => False) s) :
    WalkN q loose XP YP l.row.toRowW d [] (fun f vs => PySem.call f vs) := by
  intro w s₀ s₁ mg mb G Y fa o pm cd doc dV kV ho hd hcd hD hmg hg args vals as hpre hlay hrd hwl hlo
  obtain rfl : dV = .none := Dflts.none hD hdf
  obtain rfl : kV = .none := Dflts.noKw hD
  obtain ⟨a, vs, ns, rfl, rfl, hobj, hints, hlen⟩ := script_of hn hpre hwl
  refine enter_callW ?_
  refine call_cells_ret (o := o) (by rw [depth_caller]; decide) ho (fd_plain hd) G.T.nolimit hcd (hbind pm cd doc (.ref a)) (fun y hy => ?_) (fun h₁ tk F X => ?_) hco hgen hk
  · obtain rfl : y = (x, Value.ref a) := List.mem_singleton.mp hy
    rcases hx with e | e
    · exact .inl e
    · exact .inr ⟨e, cellsFrom_some _ _ _ (.inl e)⟩
  · refine wpAny_mono (body w s₀ s₁ { s₁ with heap := h₁, toks := tk } mg mb fa o pm cd doc a vs ns G Y ho (fd_plain hd) hcd hmg hobj hints hlen hg rfl F X) (fun f s' hq => ?_) (fun _ _ hq => hq)
    obtain ⟨rfl, h2, h3, h4⟩ := hq
    exact ⟨.inl ⟨.bool true, .bool true, [], rfl, fun _ => rfl, .bool true, post_true l _, fun _ => ⟨List.Pairwise.nil, fun _ hm => (nomatch hm)⟩⟩, h2, h3, h4⟩

/-! ### rules over ANY heap (no ledger) from facts about the written part K: the library's own take a ledger (News) for what they write -/
section
variable {prog : Program} {w : World} {A : Around} {E : Value → Shared → Prop} {s : Shared} {K : Frag}

/-- a def of the module, or a method (qual 'C.m'), entered: the frame is the next address; cells behind it -/
theorem call_fn {R : Result → Shared → Prop} {name qual : Str} {params : Arguments} {body : List Stmt} {scope : Scope} {dV kV doc pm cdv ct oc : Value} {an od : Option Addr} {osl : Array (Option Value)} {f : Addr} {args : Args} {binds : List (Str × Value)}
    (X : K.In s.heap) (hlim : s.heap.NoLimit) (ho : K.lookup f = some ⟨oc, od, .func (fnOf name qual params body scope dV kV doc pm an cdv ct), osl⟩) (hcd : codeIn K cdv qual = true) (hroom : A.depth < recursionLimit)
    (hbind : BindsTo s (fnOf name qual params body scope dV kV doc pm an cdv ct) args binds)
    (hkind : (binds.all fun y => scope.names.lookup y.1 == some .local || scope.names.lookup y.1 == some .cell) = true)
    (h : ∀ s₁, InCallC s s.heap.objs.size (bindL (envOfC qual scope s.heap.objs.size f cdv).kindOf binds fun _ => none) (cellsFrom (s.heap.objs.size + 1) scope.names [])
        (bindC (envOfC qual scope s.heap.objs.size f cdv).kindOf binds fun _ => none) s₁ →
      wpAny (model prog w) (A.deeper (envOfC qual scope s.heap.objs.size f cdv)) (execs body (envOfC qual scope s.heap.objs.size f cdv))
        (fun fl s' => R (.ok (.ret (match fl with | .ret v => v | _ => .none))) s')
        (fun e s' => wpAny (model prog w) (A.deeper (envOfC qual scope s.heap.objs.size f cdv)) (leaving (envOfC qual scope s.heap.objs.size f cdv) e) (fun _ s'' => R (.error e) s'') (fun e' s'' => R (.error e') s'') s') s₁)
    (hco : scope.isCoroutine = false) (hgen : scope.isGenerator = false) (hk : scope.kind = .function) : codeAny (model prog w) A (.call (.ref f) args) R s := by
  refine codeAny_call_function hroom (X _ _ ho) rfl hco hgen rfl (codeRec_of X hcd) (hbind _ _ _ _ ?_)
  refine wpAny_newFunctionEnv_cells hk (kindsX hkind _) fun env he s₁ x => ?_
  subst he
  exact ⟨hlim.keeps x.toInCall.keep, codeAny_func (h s₁ x)⟩

/-- C(..): dict at size, instance at size + 1, then __init__ -/
theorem make_obj {R : Result → Shared → Prop} {C fI : Addr} {rest : List Value} {kw : List (Str × Value)}
    (X : K.In s.heap) (hm : makesIn K C = true) (hi : findIn K (.ref C) "__init__" = some (some (.ref fI))) (hf : isFn K (.ref fI) = true)
    (h : codeAny (model prog w) (A.under (.builtin "type.__call__" ⟨.ref C :: rest, kw⟩)) (.call (.ref fI) ⟨.ref (s.heap.objs.size + 1) :: rest, kw⟩) (InitBack (s.heap.objs.size + 1) R)
      { s with heap := (s.heap.push emptyDict).push (instObj C s.heap.objs.size) }) : codeAny (model prog w) A (.call (.ref C) ⟨rest, kw⟩) R s := by
  obtain ⟨hh, g, d, t, os⟩ := s
  exact make_core (makes_of X hm) (looks_findIn X hi) (fun self => bind_fn X self (beq_iff_eq.mp hf)) (.inl rfl) h

/-- x.name where the instance's dict holds the name and the class does not -/
theorem get_field {x C : Addr} {ox : Obj} {es : List DictEntry} {n : Nat} {name : Str} {expr : Bool} {v : Value} {Q : Value → Shared → Prop}
    (X : K.In s.heap) (I : PySem.W.InstAt s.heap x ox C (some (dictOf es n))) (hg : plainGet K C name = true) (hh : hasDictIn K C = true) (ha : findIn K (.ref C) name = some none)
    (hl : getL name es = some (some v)) (hv : handedIn v = true) (h : Q v { s with toks := s.toks + 1 }) : wpAny (model prog w) A (getAttr (.ref x) name expr) Q E s :=
  get_value X I (plainGet_of hg).1 (findObj_own hh ha rfl hl) hv h

/-- x.m(..): the method found in the class -/
theorem get_method {x C f : Addr} {ox : Obj} {es : List DictEntry} {n : Nat} {name : Str} {pl : Sem Bool} {Q : Value × List Value → Shared → Prop}
    (X : K.In s.heap) (I : PySem.W.InstAt s.heap x ox C (some (dictOf es n))) (hg : plainGet K C name = true) (hf : findIn K (.ref C) name = some (some (.ref f))) (ht : isFn K (.ref f) = true)
    (hl : getL name es = some none) (h : Q (.ref f, [.ref x]) s) : wpAny (model prog w) A (getMethod (.ref x) name pl) Q E s :=
  method_fn X I (plainGet_of hg).1 (plainGet_of hg).2 hf (beq_iff_eq.mp ht) (by show (lookIn name (dictOf es n)).map _ = _; rw [lookIn_dict, hl]; rfl) h

/-! the whole heap as the ledger: makes every rule that writes through a ledger a rule over any heap -/
def noObjs (h : Heap) : Heap := { h with objs := #[] }
theorem noObjs_get (h : Heap) (b : Addr) : (noObjs h).get? b = none := by
  cases e : (noObjs h).get? b with
  | none => rfl
  | some o => exact absurd (Heap.lt_size e) (Nat.not_lt_zero _)
def ledger (h : Heap) (L d : Addr) : List (Addr × Obj) := (List.range h.objs.size).filterMap fun a => if a = L ∨ a = d then none else (h.get? a).map fun o => (a, o)
theorem mem_ledger {h : Heap} {L d a : Addr} {o : Obj} : (a, o) ∈ ledger h L d ↔ a ≠ L ∧ a ≠ d ∧ h.get? a = some o := by
  unfold ledger
  rw [List.mem_filterMap]
  constructor
  · rintro ⟨b, _, e⟩
    split at e
    · cases e
    · rename_i hb
      obtain ⟨o', ho, e'⟩ := Option.map_eq_some_iff.mp e
      cases e'
      exact ⟨fun q => hb (.inl q), fun q => hb (.inr q), ho⟩
  · rintro ⟨n1, n2, ho⟩
    refine ⟨a, List.mem_range.mpr (Heap.lt_size ho), ?_⟩
    rw [if_neg (show ¬ (a = L ∨ a = d) from fun q => q.elim n1 n2), ho] <;> rfl
theorem news_ledger {h : Heap} {L d : Addr} {od : Obj} (hne : d ≠ L) (ho : h.get? d = some od) : News (noObjs h) L h ([] ++ (d, od) :: ledger h L d) := by
  rintro ⟨a, o⟩ hp
  rcases List.mem_cons.mp hp with e | hp
  · cases e
    exact ⟨ho, hne, noObjs_get _ _⟩
  · obtain ⟨n1, n2, e⟩ := mem_ledger.mp hp
    exact ⟨e, n1, noObjs_get _ _⟩
theorem fr_all {h : Heap} {L : Addr} {m : Str → Option Value} (n : h.Ns L m) : Fr (noObjs h) L h m :=
  ⟨n, fun b o e => (by rw [noObjs_get] at e; cases e), Nat.zero_le _⟩
/-- Upd of the head entry (for append_K, setItem_K ..) -/
theorem upd_ledger {h : Heap} {L d : Addr} {o o' : Obj} : Upd d o o' ((d, o) :: ledger h L d) ((d, o') :: ledger h L d) :=
  .head fun ⟨_, _⟩ hp => (mem_ledger.mp hp).2.1

/-- x.name = v over any heap: L is any namespace of the heap (the frame's, say): its map stays, its object is not told; all else but the dict stays -/
theorem set_field {x C dx L : Addr} {ox : Obj} {m : Str → Option Value} {es es' : List DictEntry} {n n' : Nat} {name : Str} {v : Value} {Q : Unit → Shared → Prop}
    (X : K.In s.heap) (I : PySem.W.InstAt s.heap x ox C (some (dictOf es n))) (hd : ox.dict = some dx) (hL : s.heap.Ns L m) (hne : dx ≠ L)
    (hs : findIn K (.ref C) "__setattr__" = some (some (.builtin "object.__setattr__"))) (hp : plainOver K C = true) (ht : takerIn K C name = some none) (hh : hasDictIn K C = true) (hl : (getL name es).isSome = true)
    (e : (putL name (PyData.keyHash w.params name) (.str name (s.toks + 1)) v es, putN name es n) = (es', n')) (hz : es'.length ≤ 1000)
    (h : ∀ h' : Heap, h'.Ns L m → h'.get? dx = some (dictOf es' n') → (∀ b o, b ≠ dx → b ≠ L → s.heap.get? b = some o → h'.get? b = some o) → Q () { s with heap := h', toks := s.toks + 2 }) :
    wpAny (model prog w) A (setAttr (.ref x) name v) Q E s := by
  obtain ⟨e1, e2⟩ := Prod.mk.inj e
  have hdx : s.heap.get? dx = some (dictOf es n) := by
    have := I.dict
    rw [hd] at this
    exact this
  refine set_plain X I hs (osa_dict (s := { s with toks := s.toks + 1 }) (h₀ := noObjs s.heap) (L := L) (m := m) (od := dictOf es n) (od' := dictOf es' n') (es := es') (n := n') (pre := []) (post := ledger s.heap L dx)
    (fr_all hL) (news_ledger hne hdx) X I hd hp ht hh hl (fun _ q => nomatch q) (fun ⟨_, _⟩ q => (mem_ledger.mp q).2.1) (by rw [putName_dict, e1, e2]) rfl hz fun h' F' N' => ?_)
  exact h h' F'.ns (N'.get (List.Mem.head _)) fun b o n1 n2 ho => N'.get (List.Mem.tail _ (mem_ledger.mpr ⟨n2, n1, ho⟩))
end
end Att

namespace L2
open PySem PySem.Spec PyProof.Rows

theorem vals_ints : ∀ {vs : List Value} {ns : List Int}, IntsAre vs ns → Vals (ns.map V.int) vs
  | _, _, .nil => .nil
  | _, _, .cons n t h => .cons ⟨t, rfl⟩ (vals_ints h)

/-- nothing is tracked but the script, known to the object (or it is an object of the module) -/
def Only (H : Hp) : Prop := ∀ b, H b = none ∨ ∃ o xs, H b = some (.frz o (.lst xs))

/-- THE HEAD: the law's promise, at the heap behind the top. F, the promise of the law's def, may use that base is part of the heap (so K.In base, base.Ns mainGlobals mg stand in Mod) -/
theorem law_call {P : Program} {w : World} {K : PySem.W.Frag} {mg mb : Str → Option Value} {CX : CXT} {k : Nat} {fa a : Addr} {fd : FuncData} {x : Str} {sp : Sp} {s₁ : Shared} {vs : List Value} {ns : List Int}
    (KX : K.In s₁.heap) (hns : s₁.heap.Ns mainGlobals mg) (hb : s₁.heap.Ns builtinsNs mb) (hbb : ∀ x : Str, x ≠ "__name__" → mb x = bootBuiltins x) (hlim : s₁.heap.NoLimit) (hg : s₁.gens = #[])
    (ha : s₁.heap.get? a = some { cls := .type "list", data := .seq vs.toArray }) (hi : IntsAre vs ns) (hl : ns.length ≤ sizeLine) (hr : Room k callerA)
    (F : ∀ base : Heap, K.In base → base.Ns mainGlobals mg → FnOk P w K mg base CX k fa fd [x] sp) (hbind : ∀ (s : Shared) (u : Value), BindsTo s fd ⟨[u], []⟩ [(x, u)])
    (hsp : ∀ H : Hp, Only H → SqL K H a (ns.map V.int) → sp [.ref a] H (fun v _ => v = .bl true) fun _ _ _ => False)
    (hCX : ∀ H e s', CX [] H s₁ (fun _ _ _ => False) e s' → False) :
    codeAny (model P w) callerA (.call (.ref fa) ⟨[.ref a], []⟩) (fun r s' => r = .ok (.ret (.bool true)) ∧ OldK s₁.heap s'.heap ∧ s'.os = s₁.os ∧ AllBare s'.gens) s₁ := by
  have rv := vals_ints hi
  have lenV := hi.length
  -- from an abstract heap in which nothing but the script may be tracked
  have core : ∀ H : Hp, Only H → SqL K H a (ns.map V.int) → HOk P w H s₁.heap → (∀ b, H b ≠ none → b = a) → (H a ≠ none → K.lookup a = none) →
      codeAny (model P w) callerA (.call (.ref fa) ⟨[.ref a], []⟩) (fun r s' => r = .ok (.ret (.bool true)) ∧ OldK s₁.heap s'.heap ∧ s'.os = s₁.os ∧ AllBare s'.gens) s₁ := by
    intro H hO hS hok hA hK
    have base_of : ∀ {b : Addr} {o : Obj}, s₁.heap.get? b = some o → H b = none → (hidT s₁.heap H).get? b = some o := fun e n => hidT_get e n
    have noA : ∀ {b : Addr} {o : Obj} {es : Array DictEntry} {ep : Nat}, s₁.heap.get? b = some o → o.data = .dict es ep → H b = none := fun {b o es ep} e d => by
      cases q : H b with
      | none => rfl
      | some u =>
        have e' : b = a := hA b (by rw [q]; simp)
        subst e'
        rw [ha] at e; cases e
        have d' : Data.seq vs.toArray _ = Data.dict es ep := d
        cases d'
    have nsK : ∀ {b : Addr} {m : Str → Option Value}, s₁.heap.Ns b m → (hidT s₁.heap H).Ns b m := fun {b m} ⟨o, es, ep, e, d, r⟩ => ⟨o, es, ep, base_of e (noA e d), d, r⟩
    have hKb : K.In (hidT s₁.heap H) := fun b o e => base_of (KX b o e) (by
      cases q : H b with
      | none => rfl
      | some u =>
        have e' : b = a := hA b (by rw [q]; simp)
        subst e'
        rw [hK (by rw [q]; simp)] at e; cases e)
    have hM : Mod K mg (hidT s₁.heap H) := ⟨hKb, nsK hns, ⟨mb, nsK hb, hbb⟩, let ⟨mc, h1, h2⟩ := hlim; ⟨mc, nsK h1, h2⟩⟩
    have e0 : Env0 P w K mg (hidT s₁.heap H) callerA [] s₁ H := ⟨rfl, hM, fun b o e => of_hidT e, Nat.le_of_eq (hidT_size _ _), trivial, fun b hb => absurd (show b ∈ ([] : List Addr) from hb) (by simp), hok, .of_eq hg⟩
    refine codeAny_mono ((F _ hKb (nsK hns)).run callerA [] s₁ H ⟨[.ref a], []⟩ [.ref a] [.ref a] _ _ hr e0 (hbind s₁ (.ref a)) (.cons rfl .nil) (hsp H hO hS)) fun r s' h => ?_
    cases r with
    | error e => exact (hCX H e s' h).elim
    | ok fl =>
      cases fl with
      | next => exact False.elim h
      | brk => exact False.elim h
      | cont => exact False.elim h
      | ret u =>
        obtain ⟨v, H', os, bare, un, hok', r', q⟩ := h
        have q' : v = .bl true := q
        subst q'
        obtain rfl : u = Value.bool true := r'
        refine ⟨rfl, OldK.of_keep fun b o e => ?_, os, bare⟩
        cases q : H b with
        | none => exact un.keep b o e q (by intro z; exact absurd (show b ∈ ([] : List Addr) from z) (by simp)) (by simp)
        | some u =>
          rcases hO b with z | ⟨ob, xs, z⟩
          · rw [q] at z; cases z
          · have z2 := un.frzs b ob _ z
            obtain ⟨e1, _⟩ := hok b _ z
            obtain ⟨e2, _⟩ := hok' b _ z2
            rw [e] at e1; cases e1
            exact e2
  cases hk : K.lookup a with
  | some o =>
    -- the script is one of the module's own objects
    have e := KX a o hk
    rw [ha] at e
    cases e
    refine core (fun _ => none) (fun _ => .inl rfl) (.inr ⟨_, vs.toArray, _, hk, rfl, rfl, rfl, by rw [List.size_toArray, lenV]; exact hl, by simpa using rv⟩) (fun b u z => by have z' : (none : Option HO) = some u := z; cases z') (fun b z => absurd rfl z) fun z => absurd rfl z
  | none =>
    refine core (fun b => if b = a then some (.frz { cls := .type "list", data := .seq vs.toArray } (.lst (ns.map V.int))) else none) (fun b => ?_) (.inl (.inr ⟨{ cls := .type "list", data := .seq vs.toArray }, if_pos rfl⟩)) (fun b u z => ?_) (fun b z => ?_) fun _ => hk
    · by_cases hb : b = a
      · exact .inr ⟨_, _, if_pos hb⟩
      · exact .inl (if_neg hb)
    · by_cases hb : b = a
      · have z' := (if_pos hb).symm.trans z
        cases z'
        subst hb
        exact ⟨ha, by rw [List.length_map]; exact hl, vs, _, rv, ha⟩
      · have z' := (if_neg hb).symm.trans z
        cases z'
    · by_cases hb : b = a
      · exact hb
      · exact absurd (if_neg hb) z
end L2

namespace L2
open PySem PySem.Spec PyProof.Rows

abbrev KOf {K : PySem.W.Frag} {h : Heap} (_ : K.In h) : PySem.W.Frag := K

/-- the goal that k_head leaves (case hc), from the law's promise. F gives the function object fd (K's own) once, then the promise over every base -/
theorem walk_of {l : PySem.W.OpenLaw} {n k : Nat} {q : Program} {loose : List Str} {XP : (Str → Option Value) → Heap → Prop} {YP : World → Heap → Prop} {d : DefRec} {K : Params → PySem.W.Frag} {CX : World → CXT} {sp : World → Sp} {x : Str}
    (hn : l.most = some n) (hn2 : n ≤ sizeLine) (hdf : d.params.defaults = []) (hr : Room k callerA)
    (hY : ∀ (w : World) (h : Heap), YP w h → (K w.params).In h)
    (F : ∀ (w : World) (mg : Str → Option Value) (fa : Addr) (h : Heap), (K w.params).In h → h.Ns mainGlobals mg → mg d.name = some (.ref fa) →
      ∃ fd : FuncData, (∀ (s : Shared) (u : Value), BindsTo s fd ⟨[u], []⟩ [(x, u)]) ∧
        ∀ base : Heap, (K w.params).In base → base.Ns mainGlobals mg → FnOk l.prog w (K w.params) mg base (CX w) k fa fd [x] (sp w))
    (hsp : ∀ (w : World) (H : Hp) (a : Addr) (ns : List Int), ns.length ≤ n → Only H → SqL (K w.params) H a (ns.map V.int) → sp w [.ref a] H (fun v _ => v = .bl true) fun _ _ _ => False)
    (hCX : ∀ (w : World) (H : Hp) (s : Shared) (e : Value) (s' : Shared), CX w [] H s (fun _ _ _ => False) e s' → False) :
    PySem.W.WalkO q loose XP YP l.row.toRowW d [] (fun f vs => PySem.call f vs) := by
  refine Att.attach_call hn hdf fun w s₀ s₁ mg mb fa o pm cd doc a vs ns G Y ho hd hcd hmg hobj hints hlen hg => ?_
  have KX := hY w _ Y
  obtain ⟨fd, hb, hF⟩ := F w mg fa _ KX G.T.g hmg
  exact law_call KX G.T.g G.T.b G.T.builtins G.T.nolimit hg hobj hints (Nat.le_trans hlen hn2) hr hF hb (fun H hO hS => hsp w H a ns hlen hO hS) fun H e s' => hCX w H s₁ e s'
/-- the same where the promise hangs on the written part alone: (sp := My.sp_law), no hole under a binder -/
theorem walk_ofK {l : PySem.W.OpenLaw} {n k : Nat} {q : Program} {loose : List Str} {XP : (Str → Option Value) → Heap → Prop} {YP : World → Heap → Prop} {d : DefRec} {K : Params → PySem.W.Frag} {CX : CXT} {sp : PySem.W.Frag → Sp} {x : Str}
    (hn : l.most = some n) (hn2 : n ≤ sizeLine) (hdf : d.params.defaults = []) (hr : Room k callerA)
    (hY : ∀ (w : World) (h : Heap), YP w h → (K w.params).In h)
    (F : ∀ (w : World) (mg : Str → Option Value) (fa : Addr) (h : Heap), (K w.params).In h → h.Ns mainGlobals mg → mg d.name = some (.ref fa) →
      ∃ fd : FuncData, (∀ (s : Shared) (u : Value), BindsTo s fd ⟨[u], []⟩ [(x, u)]) ∧
        ∀ base : Heap, (K w.params).In base → base.Ns mainGlobals mg → FnOk l.prog w (K w.params) mg base CX k fa fd [x] (sp (K w.params)))
    (hsp : ∀ (K : PySem.W.Frag) (H : Hp) (a : Addr) (ns : List Int), ns.length ≤ n → Only H → SqL K H a (ns.map V.int) → sp K [.ref a] H (fun v _ => v = .bl true) fun _ _ _ => False)
    (hCX : ∀ (H : Hp) (s : Shared) (e : Value) (s' : Shared), CX [] H s (fun _ _ _ => False) e s' → False) :
    PySem.W.WalkO q loose XP YP l.row.toRowW d [] (fun f vs => PySem.call f vs) :=
  walk_of (K := K) (CX := fun _ => CX) (sp := fun w => sp (K w.params)) hn hn2 hdf hr hY F (fun w H a ns h1 h2 h3 => hsp (K w.params) H a ns h1 h2 h3) fun _ H s e s' => hCX H s e s'
end L2

/- THE LAST THEOREM (shape; LID, My.* are yours):
   My.Adr: a structure of the addresses that your layer names (classes, functions); My.Txt K t: a structure (Prop) of the equations over K;
   My.txt_mk : {K} {implicit addresses ..} (e1 : nsIn K mainGlobals "law" = some (some (.ref f))) (e2 : K.lookup f = some ⟨oc, od, .func (fnOf "law" "law" params body scope dV kV doc pm an cdv ct), sl⟩) (e3 : codeIn K cdv "law" = true) .. : ∃ t, My.Txt K t

set_option maxRecDepth 100000 in
set_option maxHeartbeats 0 in
theorem PySem.Challenge.cw_LID_holds : PySem.Challenge.rw_LID.Holds := by
  w_on; o_law; k_head; (case hw => w_witness2)
  k_fill
  refine L2.walk_of (l := PySem.Challenge.rw_LID) (n := 63) (k := 40) (x := "script") (CX := fun w => ..) (sp := fun _ => My.sp_law) rfl (by decide) rfl ⟨rfl, by decide, by decide⟩ (fun w h Y => PySem.W.kIn_of Y) ?F ?S ?C
  case F =>
    intro w mg fa h KX G hmg
    have T : ∃ t, My.Txt (L2.KOf KX) t := by
      dsimp only [L2.KOf]                          -- K must stand as «<heap const> w.params» for k_is
      refine' My.txt_mk ?e1 ?e2 ?e3 ..
      (case e1 => PySem.W.k_is)                    -- in the order: a name -> its address -> its object -> its parts
      (case e2 => PySem.W.k_is)
      ..
    obtain ⟨t, T⟩ := T
    have e0 := hmg.symm.trans (PySem.W.mg_of KX G T.law)
    cases e0                                       -- fa is the law's own address
    exact ⟨_, fun s u => .of_eq rfl, fun base kb nb => My.law_fn T kb nb⟩     -- if «.of_eq rfl» comes too early: refine' ⟨_, ?b, fun base kb nb => My.law_fn T kb nb⟩; exact fun s u => .of_eq rfl
  case S => exact fun w H a ns hl hO hS => ..
  case C => exact ..
(the tactic k_is has no namespace: write k_is) -/

/-! SHORT WORDS over the layer: a def of the text, its body, what a loop and a test want. -/
namespace L2
open PySem PySem.Spec PyProof.Rows

/-! ### the text by places -/
/-- the j-th statement of a class's body -/
def inClass (s : Stmt) (j : Nat) : Stmt := match s with
  | .ClassDef _ _ _ body _ _ _ _ _ _ _ => body.getD j (.Pass ⟨0, 0, 0, 0⟩)
  | _ => .Pass ⟨0, 0, 0, 0⟩
def defArgs (s : Stmt) : Arguments := match s with
  | .FunctionDef _ a _ _ _ _ _ _ _ _ => a
  | _ => { posonlyargs := [], args := [], vararg := none, kwonlyargs := [], kw_defaults := [], kwarg := none, defaults := [] }
def defBody (s : Stmt) : List Stmt := match s with
  | .FunctionDef _ _ b _ _ _ _ _ _ _ => b
  | _ => []
def defScope (s : Stmt) : Scope := match s with
  | .FunctionDef _ _ _ _ _ _ sc _ _ _ => sc
  | _ => { kind := .function, names := [], isGenerator := false, isCoroutine := false }

/-! ### no exception leaves a def -/
abbrev CX0 : CXT := fun _ _ _ _ _ _ => False
abbrev E0 : XK := fun _ _ _ => False
theorem pass0 {X : Cx} : Passes CX0 X E0 := fun _ _ _ _ _ _ _ h => h.elim

/-! ### a def (or method) of the text as it stands behind the top -/
structure Fun (K : PySem.W.Frag) (x qual : Str) (st : Stmt) (f : Addr) (fd : FuncData) : Prop where
  ex : ∃ (oc : Value) (od : Option Addr) (kV doc pm : Value) (an : Option Addr) (cdv ct : Value) (osl : Array (Option Value)),
    fd = PySem.W.fnOf x qual (defArgs st) (defBody st) (defScope st) .none kV doc pm an cdv ct ∧ K.lookup f = some ⟨oc, od, .func fd, osl⟩ ∧ PySem.W.codeIn K cdv qual = true
  kp : PySem.W.keepIn K (.ref f) = true
section
variable {P : Program} {w : World} {K : PySem.W.Frag} {mg : Str → Option Value} {base : Heap}
/-- THE RULE for a def: its body as a term of rules, and the reading of that term -/
theorem Fun.ok {x qual : Str} {st : Stmt} {f : Addr} {fd : FuncData} {N ps : List Str} {k : Nat} {sp : Sp} (F : Fun K x qual st f fd) (S : FnScope N ps (defScope st)) (len : ∀ vs H Q E, sp vs H Q E → vs.length = ps.length)
    (hbody : ∀ (cdv : Value) (A : Around) (outer : List Env) (s : Shared) (H : Hp) (vs : List V) (Q : VK) (E : XK), Room k (A.deeper (envOfC qual (defScope st) s.heap.objs.size f cdv)) → sp vs H Q E →
      ∃ t, PSs (cxOf CX0 P w K mg base N qual (defScope st) f cdv A outer s H E).nox (defBody st) t ∧ t { nx := fun _ H' => Q .non H', rt := Q } (start N vs) H) : FnOk P w K mg base CX0 (k + 1) f fd ps sp := by
  obtain ⟨oc, od, kV, doc, pm, an, cdv, ct, osl, rfl, lk, hcd⟩ := F.ex
  refine fn_of lk hcd S len fun A outer s H vs Q E hr hsp => ?_
  obtain ⟨t, h, q⟩ := hbody cdv A outer s H vs Q E hr hsp
  exact ⟨t, h.nox, q⟩
/-- how its arguments bind (no defaults): h is «fun _ _ _ _ _ _ us hl => match us, hl with | [_, _], _ => rfl», one _ a parameter -/
theorem Fun.binds {x qual : Str} {st : Stmt} {f : Addr} {fd : FuncData} {ps : List Str} (F : Fun K x qual st f fd)
    (h : ∀ (kV doc pm : Value) (an : Option Addr) (cdv ct : Value) (us : List Value), us.length = ps.length → bindArgs (PySem.W.fnOf x qual (defArgs st) (defBody st) (defScope st) .none kV doc pm an cdv ct) ⟨us, []⟩ = pure (ps.zip us)) : Binds K fd ps [] := by
  obtain ⟨oc, od, kV, doc, pm, an, cdv, ct, osl, rfl, lk, hcd⟩ := F.ex
  exact .all (h kV doc pm an cdv ct)
theorem fun_mk {x qual : Str} {st : Stmt} {f : Addr} {oc : Value} {od an : Option Addr} {osl : Array (Option Value)} {kV doc pm cdv ct : Value} (l : K.lookup f = some ⟨oc, od, .func (PySem.W.fnOf x qual (defArgs st) (defBody st) (defScope st) .none kV doc pm an cdv ct), osl⟩)
    (c : PySem.W.codeIn K cdv qual = true) (k : PySem.W.keepIn K (.ref f) = true) : Fun K x qual st f (PySem.W.fnOf x qual (defArgs st) (defBody st) (defScope st) .none kV doc pm an cdv ct) := ⟨⟨oc, od, kV, doc, pm, an, cdv, ct, osl, rfl, l, c⟩, k⟩
end
theorem hu_of {A : Around} {k : Nat} (hr : Room k A) : A.units + 1 < cLine := Nat.lt_of_le_of_lt (Nat.add_le_add_left (by decide : 1 ≤ 64) _) hr.units
theorem small1000 {n : Nat} (h : n ≤ 1000) : n < sizeLine := Nat.lt_of_le_of_lt h (by decide)

/-! ### expressions in short: the name that stands in the i-th slot -/
section
variable {X : Cx}
theorem pv (i : Nat) {x : Str} {pos : Pos} (hN : X.N[i]? = some x := by rfl) (hv : Vis X.env.scope x := by first | exact Or.inl rfl | exact Or.inr (Or.inl rfl) | exact Or.inr (Or.inr rfl)) (hd : (x == ("__debug__" : Str)) = false := by decide)
    (hcd : (x == ("__classdict__" : Str)) = false := by decide) : PE X (.Name x pos) (tVar i) := pe_var hN hv hd hcd
end

/-! ### tests -/
theorem iteF {A B : Prop} (h : B) : if false = true then A else B := by
  rw [if_neg Bool.false_ne_true]
  exact h
theorem iteT {A B : Prop} (h : A) : if true = true then A else B := by
  rw [if_pos rfl]
  exact h
theorem ite2 {c A B : Prop} [Decidable c] (h1 : c → A) (h2 : ¬ c → B) : if c then A else B := by
  by_cases h : c
  · rw [if_pos h]
    exact h1 h
  · rw [if_neg h]
    exact h2 h
theorem iteNS {c A B : Prop} [Decidable c] (hc : c) (h : B) : if (!decide c) = true then A else B := by
  rw [decide_eq_true hc]
  exact iteF h

/-! ### heaps -/
/-- all that was tracked is as it was -/
def Same (H H' : Hp) : Prop := ∀ b o, H b = some o → H' b = some o
theorem Same.refl (H : Hp) : Same H H := fun _ _ h => h
theorem Same.trans {H H1 H2 : Hp} (a : Same H H1) (b : Same H1 H2) : Same H H2 := fun c o h => b c o (a c o h)
theorem Same.free {H H' : Hp} (e : Same H H') {l : Addr} (h : H' l = Option.none) : H l = Option.none := by
  cases q : H l with
  | none => rfl
  | some o =>
    rw [e l o q] at h
    cases h
theorem Same.seq {K : PySem.W.Frag} {H H' : Hp} {a : Addr} {xs : List V} (e : Same H H') (h : SqL K H a xs) : SqL K H' a xs := by
  rcases h with (h | ⟨o, h⟩) | h
  · exact .inl (.inl (e _ _ h))
  · exact .inl (.inr ⟨o, e _ _ h⟩)
  · exact .inr h

end L2
/-! OWN RULES over the hand layer: list comprehensions -/
namespace L2
open PySem PySem.Spec PyProof.Rows

theorem wpAny_unpure {α β : Type} {M : Model} {A : Around} {a : α} {Q : α → Shared → Prop} {E : Value → Shared → Prop} {s : Shared} {t2 : Sem β} {Q2 : β → Shared → Prop} {E2 : Value → Shared → Prop}
    (h : wpAny M A (pure a : Sem α) Q E s) (k : Q a s → wpAny M A t2 Q2 E2 s) : wpAny M A t2 Q2 E2 s := fun Γ p hΓ => k (h Γ p hΓ) Γ p hΓ

/-- the tests of a comprehension's clause -/
def PTs (X : Cx) (ifs : List Expr) (t : TT) : Prop :=
  ∀ (pins : List (Addr × Obj)) (s : Shared) (σ : St) (H : Hp) (Q : Bool → Hp → Prop), Inv X pins σ H s → t σ H Q →
    wpAny (model X.prog X.w) X.A (forIn ifs true fun c r => if r = true then do let ok ← isTrue c X.env (eval c X.env); pure (ForInStep.yield ok) else pure (ForInStep.yield r)) (TP X pins σ Q) X.xe s
def tNoTest : TT := fun _ H Q => Q true H
theorem pts_nil {X : Cx} : PTs X [] tNoTest := fun _ _ _ H _ I h => wpAny_tests_nil ⟨H, I, h⟩
theorem pts_one {X : Cx} {c : Expr} {t : TT} (h : PT X c t) : PTs X [c] t := fun pins s σ H Q I hq => wpAny_tests_one (h pins s σ H Q I hq)

/-- the closure of a comprehension's block -/
def clOf (cells : List (Str × Addr)) (names : List (Str × NameKind)) (acc : List (Str × Addr)) : List (Str × Addr) :=
  match names with
  | [] => acc
  | (n, k) :: r => clOf cells r (if k == .free then (n, (cells.lookup n).getD 0) :: acc else acc)
theorem closure_loop {env : Env} : ∀ (names : List (Str × NameKind)) (acc : List (Str × Addr)), (∀ y ∈ names, y.2 = .free → ∃ c, env.cells.lookup y.1 = some c) →
    (forIn names acc fun (x : Str × NameKind) (r : List (Str × Addr)) => if (x.2 == .free) = true then (do let a ← cellOf env x.1; pure (ForInStep.yield ((x.1, a) :: r)) : Sem (ForInStep (List (Str × Addr)))) else pure (ForInStep.yield r)) = (pure (clOf env.cells names acc) : Sem (List (Str × Addr)))
  | [], acc, _ => rfl
  | (n, k) :: r, acc, h => by
    have ih := closure_loop (env := env) r
    rw [List.forIn_cons]
    by_cases hk : (k == NameKind.free) = true
    · obtain ⟨c, hc⟩ := h (n, k) List.mem_cons_self (by simpa using hk)
      have hc' : cellOf env n = pure c := by unfold cellOf; rw [hc]
      dsimp only
      rw [if_pos hk, hc']
      have e : clOf env.cells ((n, k) :: r) acc = clOf env.cells r ((n, c) :: acc) := by
        show clOf env.cells r (if (k == NameKind.free) = true then (n, (env.cells.lookup n).getD 0) :: acc else acc) = _
        rw [if_pos hk, hc]; rfl
      rw [e, ← ih ((n, c) :: acc) fun y hy => h y (List.mem_cons_of_mem _ hy)]
      rfl
    · dsimp only
      rw [if_neg hk]
      have e : clOf env.cells ((n, k) :: r) acc = clOf env.cells r acc := by
        show clOf env.cells r (if (k == NameKind.free) = true then (n, (env.cells.lookup n).getD 0) :: acc else acc) = _
        rw [if_neg hk]
      rw [e, ← ih acc fun y hy => h y (List.mem_cons_of_mem _ hy)]
      rfl
theorem closureFor_some {scope : Scope} {env : Env} (h : ∀ y ∈ scope.names, y.2 = .free → ∃ c, env.cells.lookup y.1 = some c) : closureFor scope env = pure (clOf env.cells scope.names []) := by
  unfold closureFor
  have e := closure_loop (env := env) scope.names [] h
  first
    | exact e
    | (simp only [bind_pure_comp, map_pure] at *; exact e)
    | (rw [← e]; simp)
theorem clOf_mem {cells : List (Str × Addr)} : ∀ (names : List (Str × NameKind)) (acc : List (Str × Addr)) (p : Str × Addr), (∀ y ∈ names, y.2 = .free → ∃ c, cells.lookup y.1 = some c) → p ∈ clOf cells names acc → p ∈ acc ∨ (cells.lookup p.1 = some p.2 ∧ (p.1, NameKind.free) ∈ names)
  | [], acc, p, _, h => .inl h
  | (n, k) :: r, acc, p, hn, h => by
    have h' : p ∈ clOf cells r (if (k == NameKind.free) = true then (n, (cells.lookup n).getD 0) :: acc else acc) := h
    rcases clOf_mem r _ p (fun y hy => hn y (List.mem_cons_of_mem _ hy)) h' with q | ⟨q1, q2⟩
    · by_cases hk : (k == NameKind.free) = true
      · rw [if_pos hk] at q
        rcases List.mem_cons.mp q with e | q
        · have hk' : k = .free := by simpa using hk
          obtain ⟨c, hc⟩ := hn (n, k) List.mem_cons_self hk'
          subst e
          refine .inr ⟨?_, ?_⟩
          · show cells.lookup n = some ((cells.lookup n).getD 0)
            have hc' : cells.lookup n = some c := hc
            rw [hc']; rfl
          · rw [← hk']; exact List.mem_cons_self
        · exact .inl q
      · rw [if_neg hk] at q
        exact .inl q
    · exact .inr ⟨q1, List.mem_cons_of_mem _ q2⟩
theorem clOf_has {cells : List (Str × Addr)} : ∀ (names : List (Str × NameKind)) (acc : List (Str × Addr)) (n : Str), ((n, NameKind.free) ∈ names ∨ ∃ c, (n, c) ∈ acc) → ∃ c, (n, c) ∈ clOf cells names acc
  | [], acc, n, h => by
    rcases h with h | h
    · cases h
    · exact h
  | (m, k) :: r, acc, n, h => by
    show ∃ c, (n, c) ∈ clOf cells r (if (k == NameKind.free) = true then (m, (cells.lookup m).getD 0) :: acc else acc)
    refine clOf_has r _ n ?_
    rcases h with h | ⟨c, h⟩
    · rcases List.mem_cons.mp h with e | h
      · injection e with e1 e2
        subst e1; subst e2
        exact .inr ⟨_, by rw [if_pos (show (NameKind.free == NameKind.free) = true from rfl)]; exact List.mem_cons_self⟩
      · exact .inl h
    · refine .inr ⟨c, ?_⟩
      split
      · exact List.mem_cons_of_mem _ h
      · exact h
theorem lookup_of_mem {α : Type} {n : Str} {c : α} : ∀ {l : List (Str × α)}, (n, c) ∈ l → ∃ d, l.lookup n = some d ∧ (n, d) ∈ l
  | (m, d) :: r, h => by
    by_cases e : n = m
    · subst e
      exact ⟨d, by simp [List.lookup_cons], List.mem_cons_self⟩
    · rcases List.mem_cons.mp h with q | q
      · injection q with q1 _
        exact absurd q1 e
      · obtain ⟨d', h1, h2⟩ := lookup_of_mem q
        refine ⟨d', ?_, List.mem_cons_of_mem _ h2⟩
        rw [List.lookup_cons]
        have : (n == m) = false := beq_eq_false_iff_ne.mpr e
        rw [this]; exact h1

/-- the scope of a comprehension: its variable x, the captured names ns, which stand at the places caps of the names around -/
structure CompScope (N : List Str) (sc scope : Scope) (x : Str) (caps : List Nat) (ns : List Str) : Prop where
  cell : ∀ y ∈ scope.names, y.2 ≠ .cell
  kind : scope.kind = .function
  names : ∀ y ∈ scope.names, y.2 = .local → scope.names.lookup y.1 = some .local
  var : scope.names.lookup x = some .local
  free : ∀ y ∈ scope.names, y.2 = .free → sc.names.lookup y.1 = some .cell ∨ sc.names.lookup y.1 = some .free
  at_ : caps.map (fun j => N[j]?) = ns.map some
  nsf : ∀ y ∈ ns, scope.names.lookup y = some .free
  nd : (x :: ns).Nodup

/-- the block's context -/
def Cx.comp (X : Cx) (N' : List Str) (scope : Scope) (cl : List (Str × Addr)) (C : Addr) (s : Shared) (H : Hp) (fp : List Addr) : Cx :=
  { X with N := N', s₀ := s, H₀ := H, env := compEnvC scope cl C X.env, outer := X.stack, ex := fp, fn := fun _ => false, xe := fun _ _ => False }

def capσ (caps : List Nat) (σ : St) (v : Option V) : St := v :: caps.map fun j => (σ[j]?).getD none

/-- a comprehension's reading -/
def tCompR (wi : TI) (caps : List Nat) (tt : TT) (te : TE) (σ : St) (H : Hp) (R : List V → Hp → Prop) : Prop := wi σ H fun J H1 => ∃ W : Nat → Nat → List V → Hp → Prop, (∃ m, W 0 m [] H1) ∧ ∀ i m ys H, W i m ys H →
  ys.length ≤ sizeLine ∧ ((J.stop i H ∧ R ys H) ∨ (J.go i H ∧ ∃ N : List V → Hp → Prop, (∀ ys' H', N ys' H' → ∃ m', m' < m ∧ W (i + 1) m' ys' H') ∧ ∀ v H', J.yld i H v H' → tt (capσ caps σ (some v)) H' fun b H2 =>
    if b = true then te (capσ caps σ (some v)) H2 fun y H3 => N (ys ++ [y]) H3 else N ys H2))
def tComp (wi : TI) (caps : List Nat) (tt : TT) (te : TE) : TE := fun σ H Q => tCompR wi caps tt te σ H fun ys H1 => ∀ D, H1 D = none → Q (.ref D) (upd H1 D (.lst ys))

theorem kindOf_relabel {scope : Scope} {env : Env} {y : Str} (h : ((relabel scope env).names.lookup y = some .cell ∨ (relabel scope env).names.lookup y = some .free)) (hc : ∀ y ∈ scope.names, y.2 ≠ .cell) : (y, NameKind.free) ∈ scope.names := by
  have h' : ∃ k, (k = .cell ∨ k = .free) ∧ (y, k) ∈ (relabel scope env).names := by
    rcases h with h | h
    · exact ⟨_, .inl rfl, PySem.mem_of_lookup h⟩
    · exact ⟨_, .inr rfl, PySem.mem_of_lookup h⟩
  obtain ⟨k, hk, hm⟩ := h'
  unfold relabel at hm
  obtain ⟨⟨n, k0⟩, hm0, e⟩ := List.mem_map.mp hm
  dsimp only at e
  split at e
  · rename_i hcond
    injection e with e1 e2
    subst e1
    have : k0 = .free := by
      simp only [Bool.and_eq_true] at hcond
      simpa using hcond.1.1
    subst this
    exact hm0
  · injection e with e1 e2
    subst e1; subst e2
    rcases hk with rfl | rfl
    · exact absurd rfl (hc _ hm0)
    · exact hm0
theorem lookup_relabel_free {env : Env} : ∀ {names : List (Str × NameKind)} {x : Str}, names.lookup x = some .free →
    (names.map fun (n, k) => if (k == NameKind.free && env.scope.kind == .function && env.kindOf n == some .cell) then (n, NameKind.cell) else (n, k)).lookup x = some .cell ∨
    (names.map fun (n, k) => if (k == NameKind.free && env.scope.kind == .function && env.kindOf n == some .cell) then (n, NameKind.cell) else (n, k)).lookup x = some .free
  | [], _, h => by simp at h
  | (n, k) :: r, x, h => by
    have ih := @lookup_relabel_free env r x
    show (List.lookup x ((if (k == NameKind.free && env.scope.kind == .function && env.kindOf n == some .cell) = true then (n, NameKind.cell) else (n, k)) :: _) = _) ∨ (List.lookup x ((if (k == NameKind.free && env.scope.kind == .function && env.kindOf n == some .cell) = true then (n, NameKind.cell) else (n, k)) :: _) = _)
    cases hx : x == n with
    | true =>
      simp only [List.lookup_cons, hx] at h
      cases h
      split
      · left; simp [List.lookup_cons, hx]
      · right; simp [List.lookup_cons, hx]
    | false =>
      simp only [List.lookup_cons, hx] at h
      by_cases hc : (k == NameKind.free && env.scope.kind == .function && env.kindOf n == some .cell) = true
      · rw [if_pos hc]; simp only [List.lookup_cons, hx]; exact ih h
      · rw [if_neg hc]; simp only [List.lookup_cons, hx]; exact ih h

section
variable {X : Cx}
theorem comp_core {x : Str} {px : Pos} {iter elt : Expr} {ifs : List Expr} {scope : Scope} {pos pos' : Pos} {wi : TI} {tt : TT} {te : TE} {caps : List Nat} {ns : List Str} {use : Option (Value → Sem Unit)} {Q : Value → Shared → Prop}
    {pins : List (Addr × Obj)} {s : Shared} {σ : St} {H : Hp} {R : List V → Hp → Prop}
    (CS : CompScope X.N X.env.scope scope x caps ns) (hc : X.calm = true) (hi : PI X (.Name x px) iter wi)
    (ht : ∀ cl C s H fp, PTs (X.comp (x :: ns) scope cl C s H fp) ifs tt) (he : ∀ cl C s H fp, PE (X.comp (x :: ns) scope cl C s H fp) elt te)
    (hs : ∀ v, foldedSetIterable iter X.env v = pure v)
    (I : Inv X pins σ H s) (h : tCompR wi caps tt te σ H R)
    (hend : ∀ D C s' H' ys, Inv X pins σ (upd H' D (.lst ys)) s' → H' D = none → R ys H' → (∃ m, s'.heap.Ns C m) → (upd H' D (.lst ys)) C = none → C ≠ X.env.locals → X.s₀.heap.objs.size ≤ C → (∀ y c, X.env.cells.lookup y = some c → c ≠ C) → (∀ p ∈ X.pn ++ pins, p.1 ≠ C) →
      compPost (model X.prog X.w) X.A X.xe use Q (.ref D) C (.ok .next) s') :
    wpAny (model X.prog X.w) X.A (comprehension (.ListComp elt [⟨.Name x px, iter, ifs, 0⟩] scope pos) scope X.env pos' (newList []) false (eval iter X.env) use) Q X.xe s := by
  have hcells : ∀ y ∈ scope.names, y.2 = .free → ∃ c, X.env.cells.lookup y.1 = some c := fun y hy hf => I.ok.has y.1 (CS.free y hy hf)
  refine wpAny_comprehension_free (use := use) rfl hs (closureFor_some hcells) CS.kind CS.names ?_
  refine thn (hi pins s σ H _ I h) fun v s1 h1 => thn h1 fun itv s2 h2 => ?_
  obtain ⟨it, fp, tn, J, H2, e, I2, T, st2, f2, W, ⟨m0, w0⟩, turn⟩ := h2
  subst e
  refine wpAny_newObj_type (wpAny_newFunctionEnv CS.cell (by intro y hy; simp at hy) (fun h₁ hns₁ hsb₁ => ?_) CS.kind)
  dsimp only at hns₁ hsb₁ ⊢
  generalize hHH : s2.heap.push { cls := .type "list", dict := none, data := .seq ([] : List Value).toArray } = HH at hns₁ hsb₁ ⊢
  have hC : HH.objs.size = s2.heap.objs.size + 1 := by rw [← hHH, Heap.size_push]
  generalize hCe : HH.objs.size = C at hns₁ hsb₁ hC ⊢
  have hDC : s2.heap.objs.size ≠ C := by rw [hC]; exact Nat.ne_of_lt (Nat.lt_succ_self _)
  have below : ∀ b, b < s2.heap.objs.size → b ≠ C ∧ b ≠ s2.heap.objs.size := fun b hb => ⟨by rw [hC]; exact Nat.ne_of_lt (Nat.lt_succ_of_lt hb), Nat.ne_of_lt hb⟩
  have old : ∀ b o, s2.heap.get? b = some o → h₁.get? b = some o := fun b o e => hsb₁.extBut b o (below b (Heap.lt_size e)).1 (Heap.get?_push_of_some _ (hHH ▸ Heap.get?_push_of_some _ e))
  have hacc : h₁.get? s2.heap.objs.size = some (LCg.lst []) := hsb₁.extBut _ _ hDC (Heap.get?_push_of_some _ (hHH ▸ Heap.get?_push_size _ rfl))
  have nfp : ∀ b ∈ fp, b < s2.heap.objs.size := fun b hb => let ⟨o, e, _⟩ := T.obj _ _ st2 b hb; Heap.lt_size e
  -- the closure's cells are the cells around
  have clsub : ∀ y c, (clOf X.env.cells scope.names []).lookup y = some c → X.env.cells.lookup y = some c := fun y c e => by
    rcases clOf_mem scope.names [] (y, c) hcells (PySem.mem_of_lookup e) with q | q
    · cases q
    · exact q.1
  have fresh2 : ∀ a, s2.heap.objs.size ≤ a → H2 a = none := fun a ha => I2.hok.fresh ha
  generalize hcl : clOf X.env.cells scope.names [] = cl at clsub ⊢
  have clhas : ∀ y, (y, NameKind.free) ∈ scope.names → ∃ c, cl.lookup y = some c := fun y hy => by
    obtain ⟨c, q⟩ := clOf_has (cells := X.env.cells) scope.names [] y (.inl hy)
    rw [hcl] at q
    obtain ⟨d, q1, _⟩ := lookup_of_mem q
    exact ⟨d, q1⟩
  have ltC : ∀ y c, X.env.cells.lookup y = some c → c < s2.heap.objs.size := fun y c e => let ⟨v, z⟩ := I2.cell y c e; z.lt
  have ok' : (X.comp (x :: ns) scope cl C s2 H2 fp).Ok := by
    refine ⟨I2.ok.mod, CS.kind, I2.ok.glob, I2.ok.blt, (by show s2.heap.objs.size ≤ C; rw [hC]; exact Nat.le_succ _), fun y z c a b => I2.ok.inj y z c (clsub y c a) (clsub z c b), fun y hy => clhas y (kindOf_relabel hy CS.cell), fun y c z => (by cases z), I2.ok.hd, I2.ok.frames, .inl rfl,
      fun b hb => ⟨(below b (nfp b hb)).1, fun y c e z => (f2 b hb).2.2.2.2.1 y c (clsub y c e) z⟩, fun b o e => I2.bs b o e, Nat.le_trans I2.ok.bsz I2.sz, fun b o e hb => ?_, fun b hb hf => ?_, I2.stack, I2.stkFree⟩
    · rcases (f2 b hb).2.2.2.1 with z | z
      · exact I2.ok.noex b o e z
      · exact absurd (Nat.lt_of_lt_of_le (Heap.lt_size e) (Nat.le_trans I2.ok.bsz z)) (Nat.lt_irrefl _)
    · rcases List.mem_cons.mp (I2.stkSub b hf) with z | z
      · exact (f2 b hb).2.1 z
      · exact (f2 b hb).2.2.1 z
  have capget : ∀ (k : Nat) (y : Str) (v : V), (x :: ns)[k]? = some y → (capσ caps σ none)[k]? = some (some v) → ∃ j, X.N[j]? = some y ∧ σ[j]? = some (some v) ∧ scope.names.lookup y = some .free := fun k y v e1 e2 => by
    cases k with
    | zero => cases e2
    | succ k =>
      have e1' : ns[k]? = some y := by simpa using e1
      have e2' : (caps.map fun j => (σ[j]?).getD none)[k]? = some (some v) := by simpa [capσ] using e2
      have e3 : (ns.map some)[k]? = some (some y) := by rw [List.getElem?_map, e1']; rfl
      rw [← CS.at_, List.getElem?_map] at e3
      rw [List.getElem?_map] at e2'
      cases hj : caps[k]? with
      | none => rw [hj] at e3; cases e3
      | some j =>
        rw [hj] at e3 e2'
        have e4 : X.N[j]? = some y := Option.some.inj e3
        have e5 : (σ[j]?).getD none = some v := Option.some.inj e2'
        refine ⟨j, e4, ?_, CS.nsf y (List.mem_of_getElem? e1')⟩
        cases hσ : σ[j]? with
        | none => rw [hσ] at e5; cases e5
        | some z => rw [hσ] at e5; have e6 : z = some v := e5; rw [e6]
  have visfree : ∀ y, scope.names.lookup y = some .free → X.env.kindOf y = some .cell ∨ X.env.kindOf y = some .free := fun y hy => CS.free (y, .free) (PySem.mem_of_lookup hy) rfl
  have I0 : Inv (X.comp (x :: ns) scope cl C s2 H2 fp) (pins ++ [(s2.heap.objs.size, LCg.lst [])]) (capσ caps σ none) H2 { s2 with heap := h₁, toks := s2.toks + ([] : List (Str × Value)).length } := by
    obtain ⟨m2, hn2, hl2⟩ := I2.loc
    refine ⟨ok', rfl, I2.bare, Un.kept old, ⟨_, hns₁, fun k y v e1 e2 e3 => ?_⟩, fun y c e => ?_, fresh2 C (by rw [hC]; exact Nat.le_succ _), fun y c e => I2.freeC y c (clsub y c e), fun p hp => ?_, I2.hok.kept old, ?_⟩
    · obtain ⟨j, q1, q2, q3⟩ := capget k y v e1 e2
      have vf := visfree y q3
      obtain ⟨u, ru, lk⟩ := hl2 j y v q1 q2 (vf.elim (fun z => .inr (.inl z)) fun z => .inr (.inr z))
      refine ⟨u, ru, .inr ⟨lookup_relabel_free q3, ?_⟩⟩
      obtain ⟨c, hcl'⟩ := clhas y (PySem.mem_of_lookup q3)
      refine ⟨c, hcl', ?_⟩
      rcases lk with ⟨k1, _⟩ | ⟨_, c', e', z⟩
      · rcases vf with vf | vf <;> (rw [k1] at vf; cases vf)
      · have q := clsub y c hcl'
        rw [e'] at q
        cases q
        exact z.keeps old
    · obtain ⟨v, z⟩ := I2.cell y c (clsub y c e)
      exact ⟨v, z.keeps old⟩
    · rcases List.mem_append.mp hp with hp | hp
      · obtain ⟨a1, a2, a3, a4, a5⟩ := I2.pin p (List.mem_append_left _ hp)
        refine ⟨old _ _ a1, a2, (below _ (Heap.lt_size a1)).1, fun z => ?_, a5⟩
        rcases List.mem_cons.mp (I2.stkSub _ z) with z | z
        · exact a3 z
        · exact a4 z
      · rcases List.mem_append.mp hp with hp | hp
        · obtain ⟨a1, a2, a3, a4, a5⟩ := I2.pin p (List.mem_append_right _ hp)
          refine ⟨old _ _ a1, a2, (below _ (Heap.lt_size a1)).1, fun z => ?_, a5⟩
          rcases List.mem_cons.mp (I2.stkSub _ z) with z | z
          · exact a3 z
          · exact a4 z
        · have e : p = (s2.heap.objs.size, LCg.lst []) := by simpa using hp
          subst e
          refine ⟨hacc, fresh2 _ (Nat.le_refl _), hDC, fun z => ?_, fun v z => by cases z⟩
          rcases List.mem_cons.mp (I2.stkSub _ z) with z | z
          · exact absurd I2.lt (by rw [← z]; exact Nat.lt_irrefl _)
          · exact I2.nofs (Nat.le_refl _) z
    · show (capσ caps σ none).length = (x :: ns).length
      have := congrArg List.length CS.at_
      simp only [List.length_map] at this
      simp [capσ, this]
  have loop : ∀ s₃ : Shared, s₃ = { s2 with heap := h₁, toks := s2.toks + ([] : List (Str × Value)).length } →
      codeAny (model X.prog X.w) X.A (.compLoop (.ListComp elt [⟨.Name x px, iter, ifs, 0⟩] scope pos) 0 (.ref it) (.ref s2.heap.objs.size) (compEnvC scope cl C X.env))
        (compPost (model X.prog X.w) X.A X.xe use Q (.ref s2.heap.objs.size) C) s₃ := by
    rintro s₃ rfl
    refine codeAny_compLoop_tests (fun n s' => ∃ i ys us H', Inv (X.comp (x :: ns) scope cl C s2 H2 fp) (pins ++ [(s2.heap.objs.size, LCg.lst us)]) (capσ caps σ none) H' s' ∧ Vals ys us ∧ tn i s'.heap ∧ (∀ b ∈ fp, H' b = none) ∧ W i n ys H') ?_ m0
      ⟨0, [], [], H2, I0, .nil, T.keep _ _ _ st2 (fun b _ o e => old b o e), fun b hb => (f2 b hb).1, w0⟩
    rintro n s3 ⟨i, ys, us, H3, I3, rv, st3, fr3, w3⟩
    obtain ⟨hle, hstep⟩ := turn i n ys H3 w3
    have pinlt : ∀ p ∈ X.pn ++ pins, p.1 < s2.heap.objs.size := fun p hp => Heap.lt_size (I2.pin p hp).1
    have stat : ∀ {H' : Hp}, (∀ b ∈ fp, H' b = none) → ∀ b ∈ fp, FpOk (X.comp (x :: ns) scope cl C s2 H2 fp) (pins ++ [(s2.heap.objs.size, LCg.lst us)]) H' b := fun hn b hb =>
      ⟨hn b hb, (below b (nfp b hb)).1, ok'.exfs b hb, .inl hb, fun y c e z => (f2 b hb).2.2.2.2.1 y c (clsub y c e) z, fun p hp => by
        rcases List.mem_append.mp hp with hp | hp
        · exact (f2 b hb).2.2.2.2.2 p (List.mem_append_left _ hp)
        · rcases List.mem_append.mp hp with hp | hp
          · exact (f2 b hb).2.2.2.2.2 p (List.mem_append_right _ hp)
          · have e : p = (s2.heap.objs.size, LCg.lst us) := by simpa using hp
            subst e
            exact Ne.symm (below b (nfp b hb)).2⟩
    have memD : ∀ (l : List (Addr × Obj)), (s2.heap.objs.size, LCg.lst us) ∈ (X.comp (x :: ns) scope cl C s2 H2 fp).pn ++ ((pins ++ [(s2.heap.objs.size, LCg.lst us)]) ++ l) := fun l =>
      List.mem_append_right _ (List.mem_append_left _ (List.mem_append_right _ List.mem_cons_self))
    rcases hstep with ⟨stop, r⟩ | ⟨go, Nx, hNx, step⟩
    · refine thn (T.done (X.comp (x :: ns) scope cl C s2 H2 fp) rfl rfl rfl hc i _ s3 _ H3 _ I3 (stat fr3) st3 stop) fun r' s4 ⟨hr, I4⟩ => ?_
      subst hr
      have pD := I4.pin (s2.heap.objs.size, LCg.lst us) (List.mem_append_right _ (List.mem_append_right _ List.mem_cons_self))
      have hDn : H3 s2.heap.objs.size = none := pD.2.1
      have hCn : H3 C = none := I4.free
      have b4 : Un (frs X.stack) fp H2 H3 s2.heap s4.heap := I4.base
      have u4 : Un (frs X.stack) fp H2 (upd H3 s2.heap.objs.size (.lst ys)) s2.heap s4.heap :=
        ⟨b4.keep, b4.slot, fun b o e n hx => by rw [upd_ne (below b (Heap.lt_size e)).2]; exact b4.free b o e n hx, b4.there,
          fun b xs q => by rw [upd_ne (ne_of_none (b4.tups b xs q) hDn)]; exact b4.tups b xs q, fun b o u q => by rw [upd_ne (ne_of_none (b4.frzs b o u q) hDn)]; exact b4.frzs b o u q,
          fun b ps q => by
            obtain ⟨m1, e1⟩ := b4.tbls b ps q
            exact ⟨m1, by rw [upd_ne (ne_of_none e1 hDn)]; exact e1⟩⟩
      have k4 : HOk X.prog X.w (upd H3 s2.heap.objs.size (.lst ys)) s4.heap := fun b u e => by
        by_cases hb : b = s2.heap.objs.size
        · subst hb
          rw [upd_same] at e
          cases e
          exact ⟨hle, us, _, rv, pD.1⟩
        · rw [upd_ne hb] at e
          exact (I4.hok b u e).stay (fun c v _ q => q) (fun c q => by rw [upd_ne (ne_of_none q hDn)]; exact q) fun c xs q => by rw [upd_ne (ne_of_none q hDn)]; exact q
      have J4 : Inv X pins σ (upd H3 s2.heap.objs.size (.lst ys)) s4 := I2.call' (ch := fp) I4.os u4 k4 I4.bare fun b hb => ⟨(f2 b hb).2.2.2.1, (f2 b hb).2.1, (f2 b hb).2.2.2.2.1, (f2 b hb).2.2.2.2.2⟩
      obtain ⟨mC, hnC, _⟩ := I4.loc
      exact hend _ C s4 H3 ys J4 hDn r ⟨mC, hnC⟩ (by rw [upd_ne (Ne.symm hDC)]; exact hCn) (Ne.symm (below _ I2.lt).1) (by rw [hC]; exact Nat.le_succ_of_le I2.sz) (fun y c e => (below c (ltC y c e)).1) fun p hp => (below _ (pinlt p hp)).1
    · refine thn (T.item (X.comp (x :: ns) scope cl C s2 H2 fp) rfl rfl rfl hc i _ s3 _ H3 _ I3 (stat fr3) st3 go) fun r' s4 ⟨u, hr, h4⟩ => ?_
      subst hr
      refine wpAny_unpure h4 fun ⟨v, H5, I5, r5, y5, st5, fr5⟩ => ?_
      have I5' := I5.pinned (stat fr5) (T.obj _ _ st5)
      refine wpAny_assign_Name (store_ok (X := X.comp (x :: ns) scope cl C s2 H2 fp) (i := 0) I5' CS.nd rfl (.inl (lookup_relabel_local CS.var)) r5 (fun s6 I6 => ?_) (.inr (lookup_relabel_local CS.var)))
      have I6' : Inv (X.comp (x :: ns) scope cl C s2 H2 fp) ((pins ++ [(s2.heap.objs.size, LCg.lst us)]) ++ pinsAt fp s4.heap) (capσ caps σ (some v)) H5 s6 := I6
      refine wpAny_mono (ht cl C s2 H2 fp _ s6 _ H5 _ I6' (step v H5 y5)) (fun b s7 ⟨H7, I7, q7⟩ => ?_) (fun _ _ e => e.elim)
      have weak : ∀ {H' : Hp} {s' : Shared} {pl : List (Addr × Obj)}, Inv (X.comp (x :: ns) scope cl C s2 H2 fp) pl (capσ caps σ (some v)) H' s' → Inv (X.comp (x :: ns) scope cl C s2 H2 fp) pl (capσ caps σ none) H' s' := fun {H' s' pl} J' =>
        J'.weak rfl fun k z e => by
          cases k with
          | zero => cases e
          | succ k => exact e
      have keepT : ∀ {H' : Hp} {s' : Shared}, Inv (X.comp (x :: ns) scope cl C s2 H2 fp) ((pins ++ [(s2.heap.objs.size, LCg.lst us)]) ++ pinsAt fp s4.heap) (capσ caps σ (some v)) H' s' → tn (i + 1) s'.heap ∧ ∀ b ∈ fp, H' b = none := fun {H' s'} J' => by
        refine ⟨T.keep _ _ _ st5 fun b hb o e => (J'.pin (b, o) (List.mem_append_right _ (List.mem_append_right _ (mem_pinsAt hb e)))).1, fun b hb => ?_⟩
        obtain ⟨o, e, d⟩ := T.obj _ _ st5 b hb
        exact (J'.pin (b, o) (List.mem_append_right _ (List.mem_append_right _ (mem_pinsAt hb e)))).2.1
      cases b with
      | false =>
        rw [if_neg Bool.false_ne_true] at q7 ⊢
        obtain ⟨m', hm, w7⟩ := hNx _ _ q7
        exact ⟨m', hm, i + 1, ys, us, H7, weak I7.unpinned, rv, (keepT I7).1, (keepT I7).2, w7⟩
      | true =>
        rw [if_pos rfl] at q7 ⊢
        refine wpAny_mono (he cl C s2 H2 fp _ s7 _ H7 _ I7 q7) (fun yv s8 ⟨y, H8, I8, ry, n8⟩ => ?_) (fun _ _ e => e.elim)
        obtain ⟨m', hm, w8⟩ := hNx _ _ n8
        have pD := I8.pin (s2.heap.objs.size, LCg.lst us) (memD _)
        have hul : us.length = ys.length := rv.length.symm
        refine append_at (hsz := by show us.toArray.size ≤ sizeLine; rw [List.size_toArray, hul]; exact hle) pD.1 fun h9 hs9 hD9 => ?_
        have I8p : Inv (X.comp (x :: ns) scope cl C s2 H2 fp) pins (capσ caps σ none) H8 s8 := weak I8.unpinned.unpinned
        have I9 : Inv (X.comp (x :: ns) scope cl C s2 H2 fp) pins (capσ caps σ none) H8 { s8 with heap := h9 } := I8p.turned (t' := s8.toks) (it := s2.heap.objs.size) (fun b o hb e => (hs9.2 b hb).trans e) pD.2.1 hDC (.inr (Nat.le_refl _)) (fun y c e z => Nat.ne_of_lt (ltC y c (clsub y c e)) z) fun p hp => Nat.ne_of_lt (pinlt p hp)
        have I9' : Inv (X.comp (x :: ns) scope cl C s2 H2 fp) (pins ++ [(s2.heap.objs.size, LCg.lst (us ++ [yv]))]) (capσ caps σ none) H8 { s8 with heap := h9 } := I9.pins_of fun p hp => by
          rcases List.mem_append.mp hp with hp | hp
          · exact I9.pin p (List.mem_append_right _ hp)
          · have e : p = (s2.heap.objs.size, LCg.lst (us ++ [yv])) := by simpa using hp
            subst e
            exact ⟨hD9.trans (congrArg some (LCg.lst_snoc us yv)), pD.2.1, hDC, pD.2.2.2.1, fun v z => by cases z⟩
        refine ⟨m', hm, i + 1, ys ++ [y], us ++ [yv], H8, I9', rv.append (.cons ry .nil), ?_, (keepT I8).2, w8⟩
        exact T.keep _ _ _ (keepT I8).1 fun b hb o e => (hs9.2 b (below b (nfp b hb)).2).trans e
  exact codeAny_compStart_list (loop _ rfl) (T.self X.A 0 _ _ _ (T.keep _ _ _ st2 (fun b _ o e => old b o e)) (loop _ rfl))

/-! the forms one uses -/
theorem comp_tup {K : PySem.W.Frag} {a : Addr} {xs : List V} {caps : List Nat} {tt : TT} {te : TE} {σ : St} {H : Hp} {R : List V → Hp → Prop} (Pv : Nat → List V → Hp → Prop) (h0 : Pv 0 [] H) (hl : ∀ i ys H, i ≤ xs.length → Pv i ys H → SqT K H a xs ∧ ys.length ≤ sizeLine)
    (hs : ∀ i x ys H, xs[i]? = some x → Pv i ys H → tt (capσ caps σ (some x)) H fun b H2 => if b = true then te (capσ caps σ (some x)) H2 fun y H3 => Pv (i + 1) (ys ++ [y]) H3 else Pv (i + 1) ys H2) (hd : ∀ ys H, Pv xs.length ys H → R ys H) :
    ∃ W : Nat → Nat → List V → Hp → Prop, (∃ m, W 0 m [] H) ∧ ∀ i m ys H, W i m ys H → ys.length ≤ sizeLine ∧ (((Itt K a).stop i H ∧ R ys H) ∨ ((Itt K a).go i H ∧ ∃ N : List V → Hp → Prop, (∀ ys' H', N ys' H' → ∃ m', m' < m ∧ W (i + 1) m' ys' H') ∧ ∀ v H', (Itt K a).yld i H v H' →
      tt (capσ caps σ (some v)) H' fun b H2 => if b = true then te (capσ caps σ (some v)) H2 fun y H3 => N (ys ++ [y]) H3 else N ys H2)) := by
  refine ⟨fun i m ys H => m = xs.length - i ∧ i ≤ xs.length ∧ Pv i ys H, ⟨xs.length, by simp, Nat.zero_le _, h0⟩, ?_⟩
  rintro i m ys H ⟨rfl, hi, p⟩
  obtain ⟨q, hz⟩ := hl i ys H hi p
  refine ⟨hz, ?_⟩
  by_cases hlt : i < xs.length
  · refine .inr ⟨⟨xs, xs[i], q, by simp [hlt]⟩, Pv (i + 1), fun ys' H' p' => ⟨xs.length - (i + 1), by omega, rfl, hlt, p'⟩, fun x H' y => ?_⟩
    obtain ⟨e, y⟩ := y
    subst e
    exact hs i x ys _ (y xs q) p
  · have e : i = xs.length := by omega
    subst e
    exact .inl ⟨⟨xs, q, Nat.le_refl _⟩, hd ys H p⟩
theorem comp_list {K : PySem.W.Frag} {a : Addr} {xs : List V} {caps : List Nat} {tt : TT} {te : TE} {σ : St} {H : Hp} {R : List V → Hp → Prop} (Pv : Nat → List V → Hp → Prop) (h0 : Pv 0 [] H) (hl : ∀ i ys H, i ≤ xs.length → Pv i ys H → SqL K H a xs ∧ ys.length ≤ sizeLine)
    (hs : ∀ i x ys H, xs[i]? = some x → Pv i ys H → tt (capσ caps σ (some x)) H fun b H2 => if b = true then te (capσ caps σ (some x)) H2 fun y H3 => Pv (i + 1) (ys ++ [y]) H3 else Pv (i + 1) ys H2) (hd : ∀ ys H, Pv xs.length ys H → R ys H) :
    ∃ W : Nat → Nat → List V → Hp → Prop, (∃ m, W 0 m [] H) ∧ ∀ i m ys H, W i m ys H → ys.length ≤ sizeLine ∧ (((Itl K a).stop i H ∧ R ys H) ∨ ((Itl K a).go i H ∧ ∃ N : List V → Hp → Prop, (∀ ys' H', N ys' H' → ∃ m', m' < m ∧ W (i + 1) m' ys' H') ∧ ∀ v H', (Itl K a).yld i H v H' →
      tt (capσ caps σ (some v)) H' fun b H2 => if b = true then te (capσ caps σ (some v)) H2 fun y H3 => N (ys ++ [y]) H3 else N ys H2)) := by
  refine ⟨fun i m ys H => m = xs.length - i ∧ i ≤ xs.length ∧ Pv i ys H, ⟨xs.length, by simp, Nat.zero_le _, h0⟩, ?_⟩
  rintro i m ys H ⟨rfl, hi, p⟩
  obtain ⟨q, hz⟩ := hl i ys H hi p
  refine ⟨hz, ?_⟩
  by_cases hlt : i < xs.length
  · refine .inr ⟨⟨xs, xs[i], q, by simp [hlt]⟩, Pv (i + 1), fun ys' H' p' => ⟨xs.length - (i + 1), by omega, rfl, hlt, p'⟩, fun x H' y => ?_⟩
    obtain ⟨e, y⟩ := y
    subst e
    exact hs i x ys _ (y xs q) p
  · have e : i = xs.length := by omega
    subst e
    exact .inl ⟨⟨xs, q, Nat.le_refl _⟩, hd ys H p⟩
theorem comp_range {lo : Int} {n : Nat} {caps : List Nat} {tt : TT} {te : TE} {σ : St} {H : Hp} {R : List V → Hp → Prop} (Pv : Nat → List V → Hp → Prop) (h0 : Pv 0 [] H) (hl : ∀ i ys H, i ≤ n → Pv i ys H → ys.length ≤ sizeLine)
    (hs : ∀ i ys H, i < n → Pv i ys H → tt (capσ caps σ (some (.int (lo + i)))) H fun b H2 => if b = true then te (capσ caps σ (some (.int (lo + i)))) H2 fun y H3 => Pv (i + 1) (ys ++ [y]) H3 else Pv (i + 1) ys H2) (hd : ∀ ys H, Pv n ys H → R ys H) :
    ∃ W : Nat → Nat → List V → Hp → Prop, (∃ m, W 0 m [] H) ∧ ∀ i m ys H, W i m ys H → ys.length ≤ sizeLine ∧ (((Itr lo n).stop i H ∧ R ys H) ∨ ((Itr lo n).go i H ∧ ∃ N : List V → Hp → Prop, (∀ ys' H', N ys' H' → ∃ m', m' < m ∧ W (i + 1) m' ys' H') ∧ ∀ v H', (Itr lo n).yld i H v H' →
      tt (capσ caps σ (some v)) H' fun b H2 => if b = true then te (capσ caps σ (some v)) H2 fun y H3 => N (ys ++ [y]) H3 else N ys H2)) := by
  refine ⟨fun i m ys H => m = n - i ∧ i ≤ n ∧ Pv i ys H, ⟨n, by simp, Nat.zero_le _, h0⟩, ?_⟩
  rintro i m ys H ⟨rfl, hi, p⟩
  refine ⟨hl i ys H hi p, ?_⟩
  by_cases hlt : i < n
  · refine .inr ⟨hlt, Pv (i + 1), fun ys' H' p' => ⟨n - (i + 1), by omega, rfl, hlt, p'⟩, fun x H' y => ?_⟩
    obtain ⟨e, y⟩ := y
    subst e y
    exact hs i ys _ hlt p
  · have e : i = n := by omega
    subst e
    exact .inl ⟨Nat.le_refl _, hd ys H p⟩

theorem pe_comp {x : Str} {px : Pos} {iter elt : Expr} {ifs : List Expr} {scope sc : Scope} {N : List Str} {pos : Pos} {wi : TI} {tt : TT} {te : TE} {caps : List Nat} {ns : List Str}
    (CS : CompScope N sc scope x caps ns) (hN' : X.N = N) (hsc : X.env.scope = sc) (hc : X.calm = true) (hi : PI X (.Name x px) iter wi)
    (ht : ∀ cl C s H fp, PTs (X.comp (x :: ns) scope cl C s H fp) ifs tt) (he : ∀ cl C s H fp, PE (X.comp (x :: ns) scope cl C s H fp) elt te)
    (hs : ∀ v, foldedSetIterable iter X.env v = pure v := by intro _; rfl) :
    PE X (.ListComp elt [⟨.Name x px, iter, ifs, 0⟩] scope pos) (tComp wi caps tt te) := by
  intro pins s σ H Q I h
  subst hN'; subst hsc
  rw [eval_ListComp]
  refine comp_core CS hc hi ht he hs I h ?_
  rintro D C s' H' ys I' hD r ⟨m, hn⟩ c1 c2 c3 c4 c5
  exact ⟨m, hn, fun h' hs' => ⟨.ref D, _, I'.turned (t' := s'.toks) (fun b o hb e => (hs'.2 b hb).trans e) c1 c2 (.inr c3) c4 c5, rfl, r D hD⟩⟩

/-- y = [.. for ..], y a plain local, on one line -/
theorem ps_setComp {i : Nat} {x y : Str} {px py : Pos} {iter elt : Expr} {ifs : List Expr} {scope sc : Scope} {N : List Str} {pos spos : Pos} {wi : TI} {tt : TT} {te : TE} {caps : List Nat} {ns : List Str} (hN : X.N.Nodup) (hi : X.N[i]? = some y)
    (hy : X.env.scope.names.lookup y = some .local) (CS : CompScope N sc scope x caps ns) (hN' : X.N = N) (hsc : X.env.scope = sc) (hc : X.calm = true) (hit : PI X (.Name x px) iter wi)
    (ht : ∀ cl C s H fp, PTs (X.comp (x :: ns) scope cl C s H fp) ifs tt) (he : ∀ cl C s H fp, PE (X.comp (x :: ns) scope cl C s H fp) elt te)
    (hsw : swapsWith (.ListComp elt [⟨.Name x px, iter, ifs, 0⟩] scope pos) (some (.Name y py)) spos.line X.env = pure true := by rfl)
    (hs : ∀ v, foldedSetIterable iter X.env v = pure v := by intro _; rfl) :
    PS X (.Assign [.Name y py] (.ListComp elt [⟨.Name x px, iter, ifs, 0⟩] scope pos) spos) (tAsg (tComp wi caps tt te) (gName i)) := by
  intro pins s σ H D I h
  subst hN'; subst hsc
  rw [exec_Assign_Name_used _ _ _ _ hsw]
  refine wpAny_bind (wpAny_standAt (wpAny_bind ?_))
  show wpAny _ X.A (do let _ ← comprehension (.ListComp elt [⟨.Name x px, iter, ifs, 0⟩] scope pos) scope X.env _ (newList []) false (eval iter X.env) (some (assign (.Name y py) X.env))) _ _ s
  refine wpAny_bind (wpAny_mono (comp_core (use := some (assign (.Name y py) X.env)) (Q := fun _ s' => SP X pins D .next s') CS hc hit ht he hs I h ?_) (fun _ s' hq => wpAny_pure (wpAny_pure hq)) fun _ _ e => e)
  rintro D' C s' H' ys I' hD r ⟨m, hn⟩ c1 c2 c3 c4 c5
  show wpAny _ _ (assign (.Name y py) X.env (.ref D')) _ _ s'
  refine wpAny_assign_Name (store_ok2 (v := .ref D') I' hN hi (.inl hy) rfl (fun s'' I'' ⟨a, sb, ha⟩ => ?_) (.inr hy))
  have hCa : C ≠ a := by
    rcases ha with e | e
    · rw [e]; exact c2
    · exact Ne.symm (c4 y a e)
  exact ⟨m, hn.sameBut sb hCa, fun h' hs' => ⟨_, _, I''.turned (t' := s''.toks) (fun b o hb e => (hs'.2 b hb).trans e) c1 c2 (.inr c3) c4 c5, r D' hD⟩⟩
end
end L2
/-! OWN RULES over the hand layer: max of a list, texts joined and repeated, a list turned round, lists compared, isinstance, dicts of the module, unions -/
namespace L2
open PySem PySem.Spec PyProof.Rows
/-! ### the names of the built-ins -/
theorem bt_len : bootBuiltins "len" = some (.builtin "len") := by decide +kernel
theorem bt_max : bootBuiltins "max" = some (.builtin "max") := by decide +kernel
theorem bt_min : bootBuiltins "min" = some (.builtin "min") := by decide +kernel
theorem bt_isinstance : bootBuiltins "isinstance" = some (.builtin "isinstance") := by decide +kernel
theorem bt_abs : bootBuiltins "abs" = some (.builtin "abs") := by decide +kernel
theorem bt_ord : bootBuiltins "ord" = some (.builtin "ord") := by decide +kernel
theorem bt_all : bootBuiltins "all" = some (.builtin "all") := by decide +kernel
theorem bt_any : bootBuiltins "any" = some (.builtin "any") := by decide +kernel
theorem bt_sum : bootBuiltins "sum" = some (.builtin "sum") := by decide +kernel
theorem bt_sorted : bootBuiltins "sorted" = some (.builtin "sorted") := by decide +kernel
theorem bt_repr : bootBuiltins "repr" = some (.builtin "repr") := by decide +kernel
theorem bt_list : bootBuiltins "list" = some (.type "list") := by decide +kernel
theorem bt_tuple : bootBuiltins "tuple" = some (.type "tuple") := by decide +kernel
theorem bt_int : bootBuiltins "int" = some (.type "int") := by decide +kernel
theorem bt_bool : bootBuiltins "bool" = some (.type "bool") := by decide +kernel
theorem bt_str : bootBuiltins "str" = some (.type "str") := by decide +kernel
theorem bt_dict : bootBuiltins "dict" = some (.type "dict") := by decide +kernel
section
variable {X : Cx}

theorem call_maxL (hc : X.calm = true) : CallR X (.builtin "max") (fun xs H Q => ∃ (p : Addr) (ns : List Int), xs = [.ref p] ∧ SqL X.K H p (ns.map V.int) ∧ 0 < ns.length ∧ ∀ M : Int, M ∈ ns → (∀ a ∈ ns, a ≤ M) → Q (.int M) H) := by
  intro pins s σ H vs us Q I r h
  obtain ⟨p, ns, rfl, hS, hne, q⟩ := h
  obtain ⟨u, rfl, ru⟩ := vals1 r
  cases ru
  obtain ⟨its, rv, pl, hz⟩ := I.list hS
  have hi : IntsAre its ns := intsAre_of rv
  obtain ⟨xs, e⟩ := hi.allInts.items
  have hns : ns = xs.toList.map (·.1) := by
    rw [← hi.numsOf, ← nums_intItems, ← e]
  have hsz : 0 < xs.size := by
    have h3 := hne; rw [hns, List.length_map, Array.length_toList] at h3; exact h3
  have hl := pl.isList
  rw [e] at hl
  refine max_intList (I.ok.hd hc) hl hsz fun v h' tk hv hk => ?_
  obtain ⟨t, rfl⟩ := intItems_at hv
  obtain ⟨h1, h2⟩ := argBest_gt (numAt xs) (xs.size - 1)
  refine ⟨.int _, H, I.kept hk, ⟨_, rfl⟩, q _ ?_ fun a ha => ?_⟩
  · rw [hns, numAt_eq]; exact getD_mem (by rw [List.length_map, Array.length_toList]; omega)
  · rw [hns] at ha
    obtain ⟨j, hj, rfl⟩ := mem_getD ha
    rw [List.length_map, Array.length_toList] at hj
    rw [← numAt_eq]; exact h2 j (by omega)
theorem call_max (hc : X.calm = true) : CallR X (.builtin "max") (fun xs H Q => (∃ i j, xs = [.int i, .int j] ∧ Q (.int (if j > i then j else i)) H) ∨
    (∃ (p : Addr) (ns : List Int), xs = [.ref p] ∧ SqL X.K H p (ns.map V.int) ∧ 0 < ns.length ∧ ∀ M : Int, M ∈ ns → (∀ a ∈ ns, a ≤ M) → Q (.int M) H)) := (call_max2 hc).or (call_maxL hc)

/-! ### texts -/
theorem op_mul_str : OpR X (binaryOp .Mult) (fun x y H Q => ∃ i n, x = .str i ∧ y = .int n ∧ 0 ≤ n ∧ n ≤ 16777216 ∧ i.length * n.toNat ≤ 16777216 ∧ Q (.str (Txt.mul i n)) H) := by
  intro pins s σ H x y v u Q I rx ry h
  obtain ⟨i, n, rfl, rfl, h0, h1, h2, q⟩ := h
  obtain ⟨t, rfl⟩ := rx
  obtain ⟨t', rfl⟩ := ry
  exact SB.mul (mulOk_of i.length n.toNat (Nat.le_refl _) (by omega) (by omega) (by omega) h2) fun t'' k => ⟨.str _, H, I.tok _, ⟨_, rfl⟩, q⟩
theorem strsAre_of {ys : List Str} : ∀ {us : List Value}, Vals (ys.map V.str) us → StrsAre us ys := by
  induction ys with
  | nil => intro us r; cases r; exact .nil
  | cons y ys ih =>
    intro us r
    cases r with
    | cons r1 r2 =>
      obtain ⟨t, rfl⟩ := r1
      exact .cons y t (ih r2)
def rJoin (K : PySem.W.Frag) : V → List V → Hp → VK → Prop := fun x vs H Q => ∃ (z : Str) (p : Addr) (ys : List Str), x = .str z ∧ vs = [.ref p] ∧ (SqL K H p (ys.map V.str) ∨ SqT K H p (ys.map V.str)) ∧ (ys.map (·.length)).sum + ys.length * z.length ≤ 16777216 ∧ Q (.str (Txt.join z ys)) H
theorem mt_join : MtR X "str.join" (rJoin X.K) := by
  intro pins s σ H x vs v us Q I rx rv h
  obtain ⟨z, p, ys, rfl, rfl, hS, hz, q⟩ := h
  obtain ⟨t, rfl⟩ := rx
  obtain ⟨u, rfl, ru⟩ := vals1 rv
  cases ru
  rcases hS with hS | hS
  · obtain ⟨its, r, pl, _⟩ := I.list hS
    exact join_list pl.isList (by simpa using strsAre_of r) hz fun t' k => ⟨.str _, H, I.tok _, ⟨_, rfl⟩, q⟩
  · obtain ⟨its, r, pl, _⟩ := I.tuple hS
    exact join_tuple pl (by simpa using strsAre_of r) hz fun t' k => ⟨.str _, H, I.tok _, ⟨_, rfl⟩, q⟩

/-! ### xs[::-1] -/
def tRev (K : PySem.W.Frag) (te ts : TE) : TE := fun σ H Q => te σ H fun x H1 => ts σ H1 fun y H2 => y = .int (-1) ∧ ∃ a xs, x = .ref a ∧ SqL K H2 a xs ∧ ∀ p, H2 p = none → Q (.ref p) (upd H2 p (.lst xs.reverse))
theorem pe_rev {e st : Expr} {te ts : TE} {p2 pos : Pos} (he : PE X e te) (hst : PE X st ts) : PE X (.Subscript e (.Slice none none (some st) p2) pos) (tRev X.K te ts) := by
  intro pins s σ H Q I h
  refine Subscript_ (thn (he pins s σ H _ I h) fun v s1 ⟨x, H1, I1, r1, q1⟩ => ?_)
  refine wpAny_Slice (wpAny_pure (wpAny_pure ?_))
  rw [evalPart_some]
  refine thn (hst pins s1 σ H1 _ I1 q1) fun w s3 ⟨y, H3, I3, ry, q3⟩ => ?_
  obtain ⟨ey, a, xs, ex, hS, q⟩ := q3
  subst ey; subst ex
  obtain ⟨tk, rfl⟩ := ry
  cases r1
  have I4 : Inv X pins σ H3 { s3 with heap := s3.heap.push { cls := .type "slice", data := .fields #[.none, .none, .int (-1) tk] } } := I3.kept (t' := s3.toks) fun b ob q => Heap.get?_push_of_some _ q
  obtain ⟨its, r, pl, hz⟩ := I4.list hS
  have hlen := r.length
  show wpAny (model X.prog X.w) X.A (subscriptTail e (.Slice none none (some st) p2) (.ref a) (.ref s3.heap.objs.size)) (EP X pins σ Q) X.xe { s3 with heap := s3.heap.push { cls := .type "slice", data := .fields #[.none, .none, .int (-1) tk] } }
  refine tail_any (ops := [.ref a, .ref s3.heap.objs.size]) pl.isList.typeIs slot_list_getitem.lookup ?_ (by with_unfolding_all rfl)
  refine wpAny_getItem_list_slice (st := some (-1)) pl.isList (Heap.IsSliceOf.new ..) .none .none (.int (-1) tk) (by simp) ?_ (by rw [List.size_toArray] <;> omega)
  rw [PySem.W.krv_pick]
  have hr : Vals xs.reverse its.toArray.toList.reverse := by simpa using r.reverse
  exact ⟨.ref _, _, I4.laid (t' := s3.toks) (o := .lst xs.reverse) (fun b ob q => Heap.get?_push_of_some _ q) (Nat.le_refl _) ⟨by rw [List.length_reverse]; exact hz, _, 0, hr, Heap.get?_push_size _ rfl⟩, rfl, q _ (I4.hok.fresh (Nat.le_refl _))⟩

/-! ### lists compared: item by item the same -/
def plainV : V → Bool
  | .byt _ => false
  | .flt _ => false
  | _ => true
theorem eqAt_same {A : Around} {s : Shared} {x : V} {u v : Value} (r : RelV x u) (r' : RelV x v) (hx : plainV x = true) : SeqAt.EqAt A s u v true := by
  cases x with
  | non => cases r; cases r'; exact SeqAt.EqAt.same _
  | bl b => cases r; cases r'; exact SeqAt.EqAt.same _
  | int i =>
    obtain ⟨t, rfl⟩ := r; obtain ⟨t', rfl⟩ := r'
    have := SeqAt.EqAt.int_int (A := A) (s := s) i t i t'
    simpa using this
  | str i =>
    obtain ⟨t, rfl⟩ := r; obtain ⟨t', rfl⟩ := r'
    have := SeqAt.EqAt.str_str (A := A) (s := s) i t i t'
    simpa using this
  | ref a => cases r; cases r'; exact SeqAt.EqAt.same _
  | ty n => cases r; cases r'; exact SeqAt.EqAt.same _
  | byt b => cases hx
  | flt b => cases hx
theorem vals_same {A : Around} {s : Shared} {xs : List V} {us vs : List Value} (r : Vals xs us) (r' : Vals xs vs) (hx : xs.all plainV = true) (j : Nat) (h1 : j < us.toArray.size) (h2 : j < vs.toArray.size) : SeqAt.EqAt A s us.toArray[j] vs.toArray[j] true := by
  have hj : j < xs.length := by rw [r.length]; simpa using h1
  obtain ⟨u, hu, ru⟩ := r.get (i := j) (x := xs[j]) (by simp [hj])
  obtain ⟨v, hv, rv⟩ := r'.get (i := j) (x := xs[j]) (by simp [hj])
  have e1 : us.toArray[j] = u := by
    have : us[j]? = some us.toArray[j] := by simp
    rw [hu] at this; exact (Option.some.inj this).symm
  have e2 : vs.toArray[j] = v := by
    have : vs[j]? = some vs.toArray[j] := by simp
    rw [hv] at this; exact (Option.some.inj this).symm
  rw [e1, e2]
  have hp := List.all_eq_true.mp hx xs[j] (List.getElem_mem hj)
  exact eqAt_same ru rv hp
def rEqL (K : PySem.W.Frag) (k : Bool) : R2 := fun x y H Q => ∃ a b xs, x = .ref a ∧ y = .ref b ∧ SqL K H a xs ∧ SqL K H b xs ∧ xs.all plainV = true ∧ Q (.bl k) H
theorem op_eqL (hu : X.A.units < cLine) : OpR X (compareOp .Eq) (rEqL X.K true) := by
  intro pins s σ H x y v u Q I rx ry h
  obtain ⟨a, b, xs, rfl, rfl, ha, hb, hp, q⟩ := h
  cases rx; cases ry
  obtain ⟨its, r, pl, _⟩ := I.list ha
  obtain ⟨its2, r2, pl2, _⟩ := I.list hb
  have hl : its.length = its2.length := by rw [← r.length, ← r2.length]
  refine SeqAt.eq_listAt (e := fun _ => true) pl.isList pl2.isList (by simpa using hl) hu (fun j h1 h2 => vals_same r r2 hp j h1 h2) ⟨.bl true, H, I, ?_, q⟩
  have : ((List.range its.toArray.size).all fun _ => true) = true := by simp
  rw [this]; rfl
theorem op_neL (hu : X.A.units < cLine) : OpR X (compareOp .NotEq) (rEqL X.K false) := by
  intro pins s σ H x y v u Q I rx ry h
  obtain ⟨a, b, xs, rfl, rfl, ha, hb, hp, q⟩ := h
  cases rx; cases ry
  obtain ⟨its, r, pl, _⟩ := I.list ha
  obtain ⟨its2, r2, pl2, _⟩ := I.list hb
  have hl : its.length = its2.length := by rw [← r.length, ← r2.length]
  refine SeqAt.RcNeAt.lists (e := fun _ => true) pl.isList pl2.isList (by simpa using hl) hu (fun j h1 h2 => vals_same r r2 hp j h1 h2) X.prog X.w X.xe _ ⟨.bl false, H, I, ?_, q⟩
  have : ((List.range its.toArray.size).all fun _ => true) = true := by simp
  rw [this]; rfl

/-! ### isinstance(x, T) -/
theorem call_isi : CallR X (.builtin "isinstance") (fun xs H Q => ∃ x c t b, xs = [x, .ty c] ∧ TyOf X.K H x t ∧ PySem.W.kitOne X.K t (.type c) = some b ∧ Q (.bl b) H) := by
  intro pins s σ H xs us Q I r h
  obtain ⟨x, c, t, b, rfl, ty, hk, q⟩ := h
  obtain ⟨u, v, rfl, ru, rv⟩ := vals2 r
  cases rv
  exact isinst_ok I ru ty hk fun tk => ⟨.bl b, H, I.tok _, rfl, q⟩

/-! ### a dict of the module, its keys texts -/
structure TopD (w : World) (K : PySem.W.Frag) (a : Addr) (kvs : List (Str × V)) : Prop where
  ex : ∃ (es : Array DictEntry) (n : Nat), K.lookup a = some ⟨.type "dict", none, .dict es n, #[]⟩ ∧ PySem.W.KeysLit w.params es.toList ∧ Paired (fun (p : Str × V) (e : DictEntry) => (∃ t, e.key = .str p.1 t) ∧ RelV p.2 e.val) kvs es.toList
  lo : (a == sysModules) = false
theorem find_paired {x : Str} : ∀ {kvs : List (Str × V)} {es : List DictEntry}, Paired (fun (p : Str × V) (e : DictEntry) => (∃ t, e.key = .str p.1 t) ∧ RelV p.2 e.val) kvs es →
    RelO (kvs.lookup x) ((es.find? fun e => Value.isStrOf x e.key).map (·.val))
  | _, _, .nil => trivial
  | (k, v) :: kvs, e :: es, .cons ⟨⟨t, hk⟩, rv⟩ r => by
    have hk' : e.key = .str k t := hk
    rw [List.lookup_cons, List.find?_cons, hk']
    by_cases hx : x = k
    · subst hx
      have h1 : Value.isStrOf x (.str x t) = true := by simp [Value.isStrOf]
      rw [h1, beq_self_eq_true]
      exact rv
    · have h1 : Value.isStrOf x (.str k t) = false := by
        cases h : Value.isStrOf x (.str k t) with
        | false => rfl
        | true =>
          obtain ⟨t', e'⟩ := Value.isStrOf_shape (x := x) (v := .str k t) h
          injection e' with e1 _
          exact absurd e1.symm hx
      have h2 : (x == k) = false := beq_eq_false_iff_ne.mpr hx
      rw [h1, h2]
      exact find_paired r
theorem TopD.map {w : World} {K : PySem.W.Frag} {a : Addr} {kvs : List (Str × V)} (T : TopD w K a kvs) {prog : Program} {h : Heap} (KX : K.In h) :
    ∃ f : Str → Option Value, h.MapOf (strKind prog w) a f ∧ ∀ x, RelO (kvs.lookup x) (f x) := by
  obtain ⟨es, n, hl, hk, hp⟩ := T.ex
  refine ⟨fun k => findBy Value.isStrOf es k, PySem.W.mapOf_K KX hl hk, fun x => ?_⟩
  have q := find_paired (x := x) hp
  show RelO (List.lookup x kvs) ((es.find? fun e => Value.isStrOf x e.key).map (·.val))
  rw [← Array.find?_toList]
  exact q
def rIxTop (w : World) (K : PySem.W.Frag) : R2 := fun x y H Q => ∃ a k kvs v, x = .ref a ∧ y = .str k ∧ TopD w K a kvs ∧ kvs.lookup k = some v ∧ Q v H
theorem ix_top : IxR X (rIxTop X.w X.K) := by
  intro value slice pins s σ H x y v u Q I rx ry h hs
  obtain ⟨a, k, kvs, z, rfl, rfl, T, hz, q⟩ := h
  cases rx
  obtain ⟨t, rfl⟩ := ry
  obtain ⟨f, hm, hf⟩ := T.map (prog := X.prog) I.kIn
  have hr := hf k
  rw [hz] at hr
  obtain ⟨w', e, r⟩ := hr.some_of
  exact tail_any hm.typeIs slot_dict_getitem.lookup (wpAny_getItem_of (strKind_is X.prog X.w k t) hm e ⟨z, H, I.tok _, r, q⟩) hs
theorem op_in_top : OpR X (compareOp .In) (fun x y H Q => ∃ k a kvs, x = .str k ∧ y = .ref a ∧ TopD X.w X.K a kvs ∧ Q (.bl (kvs.lookup k).isSome) H) := by
  intro pins s σ H x y v u Q I rx ry h
  obtain ⟨k, a, kvs, rfl, rfl, T, q⟩ := h
  cases ry
  obtain ⟨t, rfl⟩ := rx
  obtain ⟨f, hm, hf⟩ := T.map (prog := X.prog) I.kIn
  have hr := hf k
  have e : (f k).isSome = (kvs.lookup k).isSome := by
    cases h1 : kvs.lookup k with
    | none => rw [h1] at hr; rw [hr.none_of]; rfl
    | some z => rw [h1] at hr; obtain ⟨w', e, _⟩ := hr.some_of; rw [e]; rfl
  exact wpAny_in_of (strKind_is X.prog X.w k t) T.lo hm ⟨.bl _, H, I.tok _, by rw [e]; rfl, q⟩

/-! ### unions -/
theorem uAdd : OpR X (binaryOp .Add) (fun x y H Q => rI0 (fun i j => .int (i + j)) x y H Q ∨ (∃ i j, x = .str i ∧ y = .str j ∧ i.length + j.length ≤ sizeLine ∧ Q (.str (i ++ j)) H) ∨ rCat x y H Q) := op_add.or (op_add_str.or op_cat)
theorem uMul : OpR X (binaryOp .Mult) (fun x y H Q => rI CMul (fun i j => .int (i * j)) x y H Q ∨ (∃ i n, x = .str i ∧ y = .int n ∧ 0 ≤ n ∧ n ≤ 16777216 ∧ i.length * n.toNat ≤ 16777216 ∧ Q (.str (Txt.mul i n)) H) ∨ rRep x y H Q) := op_mul.or (op_mul_str.or op_rep)
theorem uEq (hu : X.A.units < cLine) : OpR X (compareOp .Eq) (fun x y H Q => rEq x y H Q ∨ rEqL X.K true x y H Q) := op_eq.or (op_eqL hu)
theorem uNe (hu : X.A.units < cLine) : OpR X (compareOp .NotEq) (fun x y H Q => rNe x y H Q ∨ rEqL X.K false x y H Q) := op_ne.or (op_neL hu)
theorem uIn : OpR X (compareOp .In) (fun x y H Q => (∃ i j, x = .str i ∧ y = .str j ∧ Q (.bl (!(Builtin.Str.occurrences j i 0 j.length 1).isEmpty)) H) ∨ rIn X.K false x y H Q ∨ (∃ k a kvs, x = .str k ∧ y = .ref a ∧ TopD X.w X.K a kvs ∧ Q (.bl (kvs.lookup k).isSome) H)) := op_in_str.or (op_in_seq.or op_in_top)
theorem uNotIn : OpR X (compareOp .NotIn) (fun x y H Q => (∃ i j, x = .str i ∧ y = .str j ∧ Q (.bl (!(!(Builtin.Str.occurrences j i 0 j.length 1).isEmpty))) H) ∨ rIn X.K true x y H Q) := op_notIn_str.or op_notIn_seq
theorem ix_any : IxR X (fun x y H Q => rIxL X.K x y H Q ∨ rIxT X.K x y H Q ∨ rIxS x y H Q ∨ rIxTop X.w X.K x y H Q) := ix_list.or (ix_tup.or (ix_str.or ix_top))
theorem sl_any : SlR X (fun x lo hi H Q => rSlL X.K x lo hi H Q ∨ rSlT X.K x lo hi H Q) := sl_list.or sl_tup

/-- an assertion behind a statement -/
def tCut (t : TS) : TS := fun D σ H => ∃ R : St → Hp → Prop, t { D with nx := R } σ H ∧ ∀ σ' H', R σ' H' → D.nx σ' H'
theorem ps_cut {st : Stmt} {t : TS} (h : PS X st t) : PS X st (tCut t) := fun pins s σ H D I ⟨R, q, hR⟩ => thn (h pins s σ H _ I q) fun f s' hs => by
  cases f with
  | next => obtain ⟨σ', H', I', r⟩ := hs; exact ⟨σ', H', I', hR σ' H' r⟩
  | brk => exact hs
  | cont => exact hs
  | ret v => exact hs
end
end L2
/-! THE SAME RULES with the module's part K (and the world w) written out, so that a reading within a comprehension names nothing of the block's own context -/
namespace L2
open PySem PySem.Spec PyProof.Rows
section
variable {X : Cx} {K : PySem.W.Frag} {w : World}
theorem kEq (hu : X.A.units < cLine) (hK : X.K = K := by rfl) : OpR X (compareOp .Eq) (fun x y H Q => rEq x y H Q ∨ rEqL K true x y H Q) := by subst hK; exact uEq hu
theorem kNe (hu : X.A.units < cLine) (hK : X.K = K := by rfl) : OpR X (compareOp .NotEq) (fun x y H Q => rNe x y H Q ∨ rEqL K false x y H Q) := by subst hK; exact uNe hu
theorem kIn (hK : X.K = K := by rfl) (hw : X.w = w := by rfl) : OpR X (compareOp .In) (fun x y H Q => (∃ i j, x = .str i ∧ y = .str j ∧ Q (.bl (!(Builtin.Str.occurrences j i 0 j.length 1).isEmpty)) H) ∨ rIn K false x y H Q ∨ (∃ k a kvs, x = .str k ∧ y = .ref a ∧ TopD w K a kvs ∧ Q (.bl (kvs.lookup k).isSome) H)) := by
  subst hK; subst hw; exact uIn
theorem kNotIn (hK : X.K = K := by rfl) : OpR X (compareOp .NotIn) (fun x y H Q => (∃ i j, x = .str i ∧ y = .str j ∧ Q (.bl (!(!(Builtin.Str.occurrences j i 0 j.length 1).isEmpty))) H) ∨ rIn K true x y H Q) := by subst hK; exact uNotIn
theorem kIx (hK : X.K = K := by rfl) (hw : X.w = w := by rfl) : IxR X (fun x y H Q => rIxL K x y H Q ∨ rIxT K x y H Q ∨ rIxS x y H Q ∨ rIxTop w K x y H Q) := by subst hK; subst hw; exact ix_any
theorem kSl (hK : X.K = K := by rfl) : SlR X (fun x lo hi H Q => rSlL K x lo hi H Q ∨ rSlT K x lo hi H Q) := by subst hK; exact sl_any
theorem k_len (hK : X.K = K := by rfl) : CallR X (.builtin "len") (fun xs H Q => ∃ x n, xs = [x] ∧ LenV K x H n ∧ Q (.int n) H) := by subst hK; exact call_len
theorem k_list (hK : X.K = K := by rfl) : CallR X (.type "list") (fun xs H Q => ∃ p ys, xs = [.ref p] ∧ (SqL K H p ys ∨ SqT K H p ys) ∧ ∀ l, H l = none → Q (.ref l) (upd H l (.lst ys))) := by subst hK; exact call_list_of
theorem k_tuple (hK : X.K = K := by rfl) : CallR X (.type "tuple") (fun xs H Q => ∃ p ys, xs = [.ref p] ∧ ((SqL K H p ys ∧ ∀ l, H l = none → Q (.ref l) (upd H l (.tup ys))) ∨ SqT K H p ys ∧ Q (.ref p) H)) := by subst hK; exact call_tuple_of
theorem k_max (hc : X.calm = true) (hK : X.K = K := by rfl) : CallR X (.builtin "max") (fun xs H Q => (∃ i j, xs = [.int i, .int j] ∧ Q (.int (if j > i then j else i)) H) ∨
    (∃ (p : Addr) (ns : List Int), xs = [.ref p] ∧ SqL K H p (ns.map V.int) ∧ 0 < ns.length ∧ ∀ M : Int, M ∈ ns → (∀ a ∈ ns, a ≤ M) → Q (.int M) H)) := by subst hK; exact call_max hc
theorem k_isi (hK : X.K = K := by rfl) : CallR X (.builtin "isinstance") (fun xs H Q => ∃ x c t b, xs = [x, .ty c] ∧ TyOf K H x t ∧ PySem.W.kitOne K t (.type c) = some b ∧ Q (.bl b) H) := by subst hK; exact call_isi
theorem k_join (hK : X.K = K := by rfl) : MtR X "str.join" (rJoin K) := by subst hK; exact mt_join
variable {o e st l c : Expr} {es : List Expr} {to te ts tl : TE} {t : TA} {name : Str} {apos cpos pos p2 : Pos} {T id : String} {r : V → List V → Hp → VK → Prop} {tg : Expr}
theorem k_bm0 (pa : PlainAttrs T) (slot : Slot T name id) (hty : typeOf (.builtin id) = pure (.type "method_descriptor")) (hm : MtR X id r) (ho : PE X o to) (hK : X.K = K := by rfl)
    (hbase : attributeBase o name X.env (eval o X.env) = eval o X.env := by rfl) (hline : (apos.endLine == cpos.line) = true := by rfl) : PE X (.Call (.Attribute o name apos) [] [] cpos) (tBM0 K T r to) := by
  subst hK; exact pe_bm0 pa slot hty hm ho hbase hline
theorem k_bm (pa : PlainAttrs T) (slot : Slot T name id) (hty : typeOf (.builtin id) = pure (.type "method_descriptor")) (hm : MtR X id r) (ho : PE X o to) (ha : PA X (e :: es) t) (hK : X.K = K := by rfl)
    (hbase : attributeBase o name X.env (eval o X.env) = eval o X.env := by rfl)
    (hfew : ((backTo cpos (starEach (e :: es) X.env)).all (fun x => !x.1) && (backToKw cpos (keywordEach [] X.env)).all (fun x => x.1.isSome)
      && decide ((e :: es).length + ([] : List Keyword).length + (if ([] : List Keyword).isEmpty then 0 else 1) < 30)) = true := by rfl)
    (hline : (apos.endLine == cpos.line) = true := by rfl) (hs : starEach (e :: es) X.env = (false, eval e X.env) :: starEach es X.env := by rfl) (hplain : (backTo cpos (starEach es X.env)).any (·.1) = false := by rfl) :
    PE X (.Call (.Attribute o name apos) (e :: es) [] cpos) (tBM K T r to t) := by
  subst hK; exact pe_bm pa slot hty hm ho ha hbase hfew hline hs hplain
theorem k_ilist (hl : PE X l tl) (hK : X.K = K := by rfl) : PI X tg l (iList K tl) := by subst hK; exact pi_list hl
theorem k_itup (hl : PE X l tl) (hK : X.K = K := by rfl) : PI X tg l (iTup K tl) := by subst hK; exact pi_tup hl
theorem k_rev (he : PE X e te) (hst : PE X st ts) (hK : X.K = K := by rfl) : PE X (.Subscript e (.Slice none none (some st) p2) pos) (tRev K te ts) := by subst hK; exact pe_rev he hst
def tTru (K : PySem.W.Frag) (ta : TE) : TT := fun σ H Q => ta σ H fun x H' => ∃ k, TruV K x H' k ∧ Q k H'
theorem k_truth (ha : PE X e te) (he : ∀ whole, isTrue e X.env whole = (do let v ← whole; standAt e.pos; holding [v] (truthy v))) (hK : X.K = K := by rfl) : PT X e (tTru K te) := by subst hK; exact pt_truth ha he
end
theorem noTest {σ : St} {H : Hp} {A B : Hp → Prop} (h : A H) : tNoTest σ H (fun b H2 => if b = true then A H2 else B H2) := by
  show if true = true then A H else B H
  rw [if_pos rfl]; exact h
/-- a test that is decided and leaves the heap as it is -/
def Dec (t : TT) (σ : St) (H : Hp) (b : Bool) : Prop := ∀ Q : Bool → Hp → Prop, Q b H → t σ H Q
theorem Dec.and {t u : TT} {σ : St} {H : Hp} {a b : Bool} (h : Dec t σ H a) (h' : Dec u σ H b) : Dec (tAnd t u) σ H (a && b) := fun Q q => h _ (by
  cases a with
  | true => rw [if_pos rfl]; exact h' Q q
  | false => rw [if_neg Bool.false_ne_true]; exact q)
theorem Dec.or {t u : TT} {σ : St} {H : Hp} {a b : Bool} (h : Dec t σ H a) (h' : Dec u σ H b) : Dec (tOr t u) σ H (a || b) := fun Q q => h _ (by
  cases a with
  | true => rw [if_pos rfl]; exact q
  | false => rw [if_neg Bool.false_ne_true]; exact h' Q q)
theorem Dec.not {t : TT} {σ : St} {H : Hp} {a : Bool} (h : Dec t σ H a) : Dec (tNot t) σ H (!a) := fun Q q => h _ q
/-! ### a display of texts -/
def strsOf : List Expr → Option (List Str)
  | [] => some []
  | .Constant (.str x) _ _ :: r => (strsOf r).map (x :: ·)
  | _ => none
def tStrs (zs : List Str) : TA := fun _ H Q => Q (zs.map V.str) H
theorem pa_strs {X : Cx} : ∀ {es : List Expr} {zs : List Str}, strsOf es = some zs → PA X es (tStrs zs)
  | [], zs, h => by
    have e : zs = [] := by cases h; rfl
    subst e
    exact pa_nil
  | e :: r, zs, h => by
    have hx : ∃ x a b, e = .Constant (.str x) a b ∧ ∃ ys, strsOf r = some ys ∧ zs = x :: ys := by
      unfold strsOf at h
      split at h
      · rename_i h1; cases h1
      · rename_i x a b r' h1
        injection h1 with h1 h2
        subst h1; subst h2
        cases q : strsOf r with
        | none => rw [q] at h; cases h
        | some ys => rw [q] at h; cases h; exact ⟨x, a, b, rfl, ys, rfl, rfl⟩
      · cases h
    obtain ⟨x, a, b, rfl, ys, hr, rfl⟩ := hx
    exact pa_cons pe_str (pa_strs hr)
/-! ### cuts -/
theorem cut_from (xs : List V) (k : Nat) : cutV xs (some (k : Int)) none = xs.drop k := by
  unfold cutV
  rw [HT.sIx_nat, HT.sIx_none]
  by_cases h : k ≤ xs.length
  · rw [Nat.min_eq_left h, List.take_of_length_le (by simp)]
  · rw [Nat.min_eq_right (by omega), List.drop_eq_nil_of_le (Nat.le_refl _), List.drop_eq_nil_of_le (by omega)]
    simp
theorem cut_to (xs : List V) (k : Nat) : cutV xs none (some (k : Int)) = xs.take k := by
  unfold cutV
  rw [HT.sIx_nat, HT.sIx_none]
  simp only [List.drop_zero, Nat.sub_zero]
  by_cases h : k ≤ xs.length
  · rw [Nat.min_eq_left h]
  · rw [Nat.min_eq_right (by omega), List.take_of_length_le (Nat.le_refl _), List.take_of_length_le (by omega)]
theorem cut_both (xs : List V) (a b : Nat) : cutV xs (some (a : Int)) (some (b : Int)) = (xs.drop a).take (b - a) := by
  unfold cutV
  rw [HT.sIx_nat, HT.sIx_nat]
  by_cases ha : a ≤ xs.length
  · rw [Nat.min_eq_left ha]
    by_cases hb : b ≤ xs.length
    · rw [Nat.min_eq_left hb]
    · rw [Nat.min_eq_right (by omega), List.take_of_length_le (by simp), List.take_of_length_le (by simp; omega)]
  · rw [Nat.min_eq_right (Nat.le_of_not_le ha), List.drop_eq_nil_of_le (Nat.le_refl _), List.drop_eq_nil_of_le (Nat.le_of_not_le ha)]
    simp
end L2
/-! OWN RULES over the hand layer: own exceptions that leave defs -/
namespace L2
open PySem PySem.Spec PyProof.Rows

/-- an exception of the class C flies: its record, the head of its traceback; neither is tracked, both are younger than g -/
def XAt (h g : Heap) (H : Hp) (a : Addr) (C : Value) : Prop :=
  ∃ oe vs T oT ts a0, h.get? a = some oe ∧ oe.cls = C ∧ oe.data = .fields vs ∧ vs[0]? = some a0 ∧ vs[1]? = some (.ref T) ∧ T ≠ a ∧ h.get? T = some oT ∧ oT.data = .fields ts ∧ ts[3]? = some .none ∧
    H a = none ∧ H T = none ∧ g.get? a = none ∧ g.get? T = none

/-- how such an exception lies behind a call -/
def CXr (P : Program) (w : World) : CXT := fun outer H s E e s' => ∃ (a : Addr) (C : Value) (H' : Hp), e = .ref a ∧ s'.os = s.os ∧ AllBare s'.gens ∧ Un (frs outer) [] H H' s.heap s'.heap ∧ HOk P w H' s'.heap ∧ XAt s'.heap s.heap H' a C ∧ E C none H'

section
variable {M : Model} {A : Around} {E : Value → Shared → Prop} {s : Shared}
/-- the frame is left: what stays -/
theorem leave_fly {base : Heap} {env : Env} {outer : List Env} {L a : Addr} {C : Value} {g : Heap} {H : Hp} {Q : Unit → Shared → Prop} (hfr : A.frames = some (env :: outer)) (hf : env.frame = some L) (hl : s.heap.FunFrames base (env :: outer))
    (x : XAt s.heap g H a C) (hH : ∀ b, H b ≠ none → ∃ o, s.heap.get? b = some o) (hg : ∀ b o, g.get? b = some o → ∃ o', s.heap.get? b = some o')
    (hQ : ∀ h' T, (∀ b o, s.heap.get? b = some o → b ∉ frs (env :: outer) → b ≠ a → b ≠ T → h'.get? b = some o) → (∀ b o, s.heap.get? b = some o → b ∈ frs (env :: outer) → ∃ sl, h'.get? b = some { o with slots := sl }) →
      H T = none → g.get? T = none → XAt h' g H a C → Q () { s with heap := h' }) : wpAny M A (leaving env (.ref a)) Q E s := by
  obtain ⟨oe, vs, T, oT, ts, a0, x1, x2, x3, x4, x5, x6, x7, x8, x9, x10, x11, x12, x13⟩ := x
  have memf : ∀ b, b ∈ frs (env :: outer) → b ∈ frs (env :: outer) ++ [a, T] := fun b hb => List.mem_append_left _ hb
  have hin : ∀ e ∈ (env :: outer), ∀ b, e.frame = some b → b ∈ frs (env :: outer) ++ [a, T] := fun e he b hb => memf b (List.mem_filterMap.mpr ⟨e, he, hb⟩)
  have nof : ∀ b o vs', s.heap.get? b = some o → o.data = .fields vs' → b ∉ frs (env :: outer) := fun b o vs' hb hd hm => by
    obtain ⟨_, o', ho', hnf⟩ := hl.mem hm
    rw [hb] at ho'; cases ho'
    exact hnf vs' hd
  refine wpAny_leaves_onW (base := PySem.W.hideAll s.heap (frs (env :: outer) ++ [a, T])) (cls := C) (a0 := a0) hfr hf ⟨fun b o q => PySem.W.of_hideAll _ q, PySem.W.hideAll_none _ (by simp), PySem.W.funFrames_hide hl hin, oe, vs, T, oT, ts, x1, ⟨x2, x4⟩, x3, x5, PySem.W.hideAll_none _ (by simp), x6, x7, x8, x9⟩ fun h' fl us => ?_
  obtain ⟨st, _, _, oe', vs', T', oT', ts', y1, ⟨y2, y4⟩, y3, y5, yB, y6, y7, y8, y9⟩ := fl
  have keep : ∀ b o, s.heap.get? b = some o → b ∉ frs (env :: outer) → b ≠ a → b ≠ T → h'.get? b = some o := fun b o hb n1 n2 n3 => st b o (PySem.W.hideAll_get _ hb (by
    intro hm
    rcases List.mem_append.mp hm with hm | hm
    · exact n1 hm
    · rcases List.mem_cons.mp hm with hm | hm
      · exact n2 hm
      · exact n3 (by simpa using hm)))
  have slot : ∀ b o, s.heap.get? b = some o → b ∈ frs (env :: outer) → ∃ sl, h'.get? b = some { o with slots := sl } := fun b o hb hm => by
    obtain ⟨_, o', ho', hnf⟩ := hl.mem hm
    rw [hb] at ho'; cases ho'
    exact us b o hb hnf
  -- the new head: the old one, or a new record
  have hT' : T' = T ∨ s.heap.get? T' = none := by
    cases q : s.heap.get? T' with
    | none => exact .inr rfl
    | some o =>
      refine .inl ?_
      by_cases hm : T' ∈ frs (env :: outer) ++ [a, T]
      · rcases List.mem_append.mp hm with hm | hm
        · obtain ⟨_, o', ho', hnf⟩ := hl.mem hm
          obtain ⟨sl, hs⟩ := us T' o' ho' hnf
          rw [hs] at y7; cases y7
          exact absurd y8 (hnf ts')
        · rcases List.mem_cons.mp hm with hm | hm
          · exact absurd hm y6
          · simpa using hm
      · rw [PySem.W.hideAll_get _ q hm] at yB; cases yB
  have hHT' : H T' = none := by
    rcases hT' with e | e
    · rw [e]; exact x11
    · cases q : H T' with
      | none => rfl
      | some u => obtain ⟨o, ho⟩ := hH T' (by rw [q]; simp); rw [e] at ho; cases ho
  have hgT' : g.get? T' = none := by
    rcases hT' with e | e
    · rw [e]; exact x13
    · cases q : g.get? T' with
      | none => rfl
      | some u => obtain ⟨o, ho⟩ := hg T' u q; rw [e] at ho; cases ho
  exact hQ h' T keep slot x11 x13 ⟨oe', vs', T', oT', ts', a0, y1, y2, y3, y4, y5, y6, y7, y8, y9, x10, hHT', x12, hgT'⟩
end

theorem ObjOk.get {P : Program} {w : World} {H : Hp} {h : Heap} {a : Addr} {o : HO} (x : ObjOk P w H h a o) : ∃ ob, h.get? a = some ob := by
  cases o with
  | lst xs => obtain ⟨_, _, _, _, e⟩ := x; exact ⟨_, e⟩
  | tup xs => obtain ⟨_, _, _, p⟩ := x; obtain ⟨ob, e, _⟩ := p; exact ⟨ob, e⟩
  | dK kvs => obtain ⟨_, _, _, _, o, _, _, e, _⟩ := x; exact ⟨o, e⟩
  | dT kvs => obtain ⟨_, _, _, _, o, _, _, e, _⟩ := x; exact ⟨o, e⟩
  | set S n => obtain ⟨o, _, _, _, e, _⟩ := x; exact ⟨o, e⟩
  | ins C dx fs => obtain ⟨_, _, _, e, _⟩ := x; exact ⟨_, e⟩
  | own y => obtain ⟨o, e⟩ := x; exact ⟨o, e⟩
  | xd fs => obtain ⟨_, ⟨o, _, _, e, _⟩, _⟩ := x; exact ⟨o, e⟩
  | rng lo hi => obtain ⟨_, _, _, e⟩ := x; exact ⟨_, e⟩
  | frz ob u => obtain ⟨e, _⟩ := x; exact ⟨_, e⟩
  | tbl ps => exact ⟨_, (show h.get? a = some _ from x)⟩
  | met f y => exact ⟨_, (show h.get? a = some _ from x)⟩
  | ext φ => obtain ⟨_, ⟨o, e⟩, _⟩ := x; exact ⟨o, e⟩
theorem HOk.there {P : Program} {w : World} {H : Hp} {h : Heap} (x : HOk P w H h) (b : Addr) (n : H b ≠ none) : ∃ o, h.get? b = some o := by
  cases q : H b with
  | none => exact absurd q n
  | some u => exact (x b u q).get
theorem HOk.keptT {P : Program} {w : World} {H : Hp} {h h' : Heap} (x : HOk P w H h) (k : ∀ b o, H b ≠ none → h.get? b = some o → h'.get? b = some o) : HOk P w H h' := fun b u e =>
  (x b u e).stay (fun c v hc q => k c v (by
    rcases hc with rfl | hc
    · rw [e]; simp
    · rw [hc]; simp) q) (fun _ q => q) fun _ _ q => q

section
variable {X : Cx} {pins : List (Addr × Obj)} {σ : St} {H1 H2 : Hp} {s1 : Shared} {h1 h2 : Heap}
theorem Inv.fsSub (I : Inv X pins σ H1 s1) : ∀ b ∈ X.fs, b ∈ frs X.stack := fun b hb => by
  rcases I.ok.stk with e | ⟨e, hf⟩
  · rw [e]; exact hb
  · rw [e]
    unfold frs
    rw [List.filterMap_cons, hf]
    exact List.mem_cons_of_mem _ hb
theorem un_out (I : Inv X pins σ H1 s1) (hex : X.ex = []) (u : Un (frs X.stack) [] H1 H2 s1.heap h1)
    (keep2 : ∀ b o, h1.get? b = some o → b ∉ frs X.stack → s1.heap.get? b ≠ none → h2.get? b = some o) (slot2 : ∀ b o, h1.get? b = some o → b ∈ frs X.stack → ∃ sl, h2.get? b = some { o with slots := sl }) :
    Un X.fs [] X.H₀ H2 X.s₀.heap h2 := by
  have nex : ∀ b : Addr, b ∉ X.ex := fun b => by rw [hex]; simp
  have nst : ∀ b o, X.s₀.heap.get? b = some o → b ∉ X.fs → b ∉ frs X.stack := fun b o e n hm => by
    rcases List.mem_cons.mp (I.stkSub b hm) with z | z
    · exact absurd (Nat.lt_of_lt_of_le (Heap.lt_size e) I.ok.above) (by rw [z]; exact Nat.lt_irrefl _)
    · exact n z
  refine ⟨fun b o e n hb _ => ?_, fun b o e n hb _ => ?_, fun b o e n _ => ?_, fun b o e _ => ?_, fun b xs q => u.tups b xs (I.base.tups b xs q), fun b o v q => u.frzs b o v (I.base.frzs b o v q), fun b ps q => ?_⟩
  · have e1 := I.base.keep b o e n hb (nex b)
    have n1 := I.base.free b o e n (nex b)
    have ns := nst b o e hb
    exact keep2 b o (u.keep b o e1 n1 ns (by simp)) ns (by rw [e1]; simp)
  · obtain ⟨sl, e1⟩ := I.base.slot b o e n hb (nex b)
    have n1 := I.base.free b o e n (nex b)
    have hm := I.fsSub b hb
    obtain ⟨sl2, e2⟩ := u.slot b _ e1 n1 hm (by simp)
    obtain ⟨sl3, e3⟩ := slot2 b _ e2 hm
    exact ⟨sl3, e3⟩
  · obtain ⟨o1, e1⟩ := I.base.there b o e (nex b)
    exact u.free b o1 e1 (I.base.free b o e n (nex b)) (by simp)
  · obtain ⟨o1, e1⟩ := I.base.there b o e (nex b)
    obtain ⟨o2, e2⟩ := u.there b o1 e1 (by simp)
    by_cases hm : b ∈ frs X.stack
    · obtain ⟨sl, e3⟩ := slot2 b o2 e2 hm
      exact ⟨_, e3⟩
    · exact ⟨o2, keep2 b o2 e2 hm (by rw [e1]; simp)⟩
  · obtain ⟨m1, e1⟩ := I.base.tbls b ps q
    obtain ⟨m2, e2⟩ := u.tbls b _ e1
    exact ⟨m1 ++ m2, by rw [e2, Array.append_assoc]⟩
theorem funs_un {base : Heap} {l : List Env} {fs : List Addr} (hl : s1.heap.FunFrames base l) (hH : ∀ b ∈ frs l, H1 b = none) (hs : ∀ b ∈ frs l, b ∈ fs) (u : Un fs [] H1 H2 s1.heap h1) : h1.FunFrames base l := by
  induction l with
  | nil => trivial
  | cons env r ih =>
    obtain ⟨hk, ⟨L, o, hf, hn, ho, hd⟩, hr⟩ := hl
    have hL : L ∈ frs (env :: r) := by unfold frs; rw [List.filterMap_cons, hf]; exact List.mem_cons_self
    have sub : ∀ b, b ∈ frs r → b ∈ frs (env :: r) := fun b hb => by unfold frs; rw [List.filterMap_cons, hf]; exact List.mem_cons_of_mem _ hb
    obtain ⟨sl, e⟩ := u.slot L o ho (hH L hL) (hs L hL) (by simp)
    exact ⟨hk, ⟨L, _, hf, hn, e, hd⟩, ih hr (fun b hb => hH b (sub b hb)) fun b hb => hs b (sub b hb)⟩
end

section
variable {P : Program} {w : World} {K : PySem.W.Frag} {mg : Str → Option Value} {base : Heap} {N : List Str} {qual : Str} {scope : Scope} {f : Addr} {cd : Value} {A : Around} {outer : List Env} {s : Shared} {H : Hp} {E : XK}
  {pins : List (Addr × Obj)} {σ : St} {H1 : Hp} {s1 : Shared}
/-- a raise leaves the def -/
theorem raise_out {h' : Heap} {a : Addr} {C : Value} {vs : List Value} (I : Inv (cxOf (CXr P w) P w K mg base N qual scope f cd A outer s H E) pins σ H1 s1) (hx : Heap.MadeExcOf s1.heap h' a C vs) (hE : E C none H1) :
    (cxOf (CXr P w) P w K mg base N qual scope f cd A outer s H E).xe (.ref a) { s1 with heap := h' } := by
  have hst := I.stack
  have hin : ∀ e ∈ (cxOf (CXr P w) P w K mg base N qual scope f cd A outer s H E).stack, ∀ b, e.frame = some b → b ∈ frs (cxOf (CXr P w) P w K mg base N qual scope f cd A outer s H E).stack := fun e he b hb => List.mem_filterMap.mpr ⟨e, he, hb⟩
  refine wpAny_leaves_madeW (base := PySem.W.hideAll s1.heap (frs (cxOf (CXr P w) P w K mg base N qual scope f cd A outer s H E).stack)) (h := s1.heap) I.ok.frames rfl (fun b o q => PySem.W.of_hideAll _ q) (PySem.W.funFrames_hide hst hin) hx fun h2 t fl _ _ us => ?_
  obtain ⟨st, _, _, oe, vs', T, oT, ts, y1, ⟨y2, y4⟩, y3, y5, yB, y6, y7, y8, y9⟩ := fl
  have keep : ∀ b o, s1.heap.get? b = some o → b ∉ frs (cxOf (CXr P w) P w K mg base N qual scope f cd A outer s H E).stack → h2.get? b = some o := fun b o hb n => st b o (PySem.W.hideAll_get _ hb n)
  have slot : ∀ b o, s1.heap.get? b = some o → b ∈ frs (cxOf (CXr P w) P w K mg base N qual scope f cd A outer s H E).stack → ∃ sl, h2.get? b = some { o with slots := sl } := fun b o hb hm => by
    obtain ⟨_, o', ho', hnf⟩ := hst.mem hm
    rw [hb] at ho'; cases ho'
    exact us b o (hx.keeps b o hb) hnf
  have hT : s1.heap.get? T = none := by
    cases q : s1.heap.get? T with
    | none => rfl
    | some o =>
      by_cases hm : T ∈ frs (cxOf (CXr P w) P w K mg base N qual scope f cd A outer s H E).stack
      · obtain ⟨_, o', ho', hnf⟩ := hst.mem hm
        obtain ⟨sl, hs⟩ := slot T o' ho' hm
        rw [hs] at y7; cases y7
        exact absurd y8 (hnf ts)
      · rw [PySem.W.hideAll_get _ q hm] at yB; cases yB
  have fresh : ∀ b, s1.heap.get? b = none → H1 b = none := fun b hb => by
    cases q : H1 b with
    | none => rfl
    | some u => obtain ⟨o, ho⟩ := I.hok.there b (by rw [q]; simp); rw [hb] at ho; cases ho
  have older : ∀ b, s1.heap.get? b = none → s.heap.get? b = none := fun b hb => by
    cases q : s.heap.get? b with
    | none => rfl
    | some u => obtain ⟨o, ho⟩ := I.base.there b u q (by intro z; cases z); rw [hb] at ho; cases ho
  have trk : ∀ b, H1 b ≠ none → b ∉ frs (cxOf (CXr P w) P w K mg base N qual scope f cd A outer s H E).stack := fun b hb hm => hb (I.stkFree b hm)
  refine ⟨a, C, H1, rfl, I.os, I.bare, ?_, I.hok.keptT fun b o hb e => keep b o e (trk b hb), ⟨oe, vs', T, oT, ts, _, y1, y2, y3, y4, y5, y6, y7, y8, y9, fresh a hx.new, fresh T hT, older a hx.new, older T hT⟩, hE⟩
  exact un_out (h1 := s1.heap) I rfl Un.refl (fun b o e n _ => keep b o e n) slot
/-- an exception of a callee leaves the def -/
theorem pass_out : Passes (CXr P w) (cxOf (CXr P w) P w K mg base N qual scope f cd A outer s H E) E := by
  intro pins σ H1 s1 e s2 I hc
  obtain ⟨a, C, H2, rfl, os2, bare2, u, hok, x, hE⟩ := hc
  have hst2 : s2.heap.FunFrames base (cxOf (CXr P w) P w K mg base N qual scope f cd A outer s H E).stack := funs_un I.stack I.stkFree (fun _ hb => hb) u
  have older1 : ∀ b o, s.heap.get? b = some o → ∃ o', s1.heap.get? b = some o' := fun b o e => I.base.there b o e (by intro z; cases z)
  have weaken : ∀ {h' : Heap}, XAt h' s1.heap H2 a C → XAt h' s.heap H2 a C := fun {h'} x => by
    obtain ⟨oe, vs, T, oT, ts, a0, x1, x2, x3, x4, x5, x6, x7, x8, x9, x10, x11, x12, x13⟩ := x
    refine ⟨oe, vs, T, oT, ts, a0, x1, x2, x3, x4, x5, x6, x7, x8, x9, x10, x11, ?_, ?_⟩
    · cases q : s.heap.get? a with
      | none => rfl
      | some o => obtain ⟨o', e'⟩ := older1 a o q; rw [x12] at e'; cases e'
    · cases q : s.heap.get? T with
      | none => rfl
      | some o => obtain ⟨o', e'⟩ := older1 T o q; rw [x13] at e'; cases e'
  have hna : s1.heap.get? a = none := by obtain ⟨_, _, _, _, _, _, _, _, _, _, _, _, _, _, _, _, _, z, _⟩ := x; exact z
  have hHa : H2 a = none := by obtain ⟨_, _, _, _, _, _, _, _, _, _, _, _, _, _, _, z, _⟩ := x; exact z
  refine leave_fly (E := _) I.ok.frames rfl hst2 x (fun b hb => hok.there b hb) (fun b o e => u.there b o e (by simp)) fun h' T keep slot hHT hgT xa => ?_
  have frFree : ∀ b ∈ frs (cxOf (CXr P w) P w K mg base N qual scope f cd A outer s H E).stack, H2 b = none := fun b hm => by
    obtain ⟨_, o, ho, _⟩ := I.stack.mem hm
    exact u.free b o ho (I.stkFree b hm) (by simp)
  refine ⟨a, C, H2, rfl, os2.trans I.os, bare2, ?_, hok.keptT fun b o hb e => keep b o e (fun hm => hb (frFree b hm)) (fun z => hb (by rw [z]; exact hHa)) (fun z => hb (by rw [z]; exact hHT)), weaken xa, hE⟩
  exact un_out I rfl u (fun b o e n hs => keep b o e n (fun z => hs (by rw [z]; exact hna)) fun z => hs (by rw [z]; exact hgT)) slot
/-- THE RULE for a def from which own exceptions may leave -/
theorem Fun.okX {x qual : Str} {st : Stmt} {f : Addr} {fd : FuncData} {N ps : List Str} {k : Nat} {sp : Sp} (F : Fun K x qual st f fd) (S : FnScope N ps (defScope st)) (len : ∀ vs H Q E, sp vs H Q E → vs.length = ps.length)
    (hbody : ∀ (cdv : Value) (A : Around) (outer : List Env) (s : Shared) (H : Hp) (vs : List V) (Q : VK) (E : XK), Room k (A.deeper (envOfC qual (defScope st) s.heap.objs.size f cdv)) → sp vs H Q E →
      ∃ t, PSs (cxOf (CXr P w) P w K mg base N qual (defScope st) f cdv A outer s H E) (defBody st) t ∧ t { nx := fun _ H' => Q .non H', rt := Q } (start N vs) H) : FnOk P w K mg base (CXr P w) (k + 1) f fd ps sp := by
  obtain ⟨oc, od, kV, doc, pm, an, cdv, ct, osl, rfl, lk, hcd⟩ := F.ex
  exact fn_of lk hcd S len fun A outer s H vs Q E hr hsp => hbody cdv A outer s H vs Q E hr hsp
end
end L2
/-! OWN RULES over the hand layer: raise of an own class -/
namespace L2
open PySem PySem.Spec PyProof.Rows

/-- what stands behind the class itself in its row of bases -/
def bmOf (K : PySem.W.Frag) (C : Addr) : List Value := match K.lookup C with
  | some o => (match o.data with
    | .cls d => d.mro.tail
    | _ => [])
  | none => []
/-- the object of an own class of exceptions -/
def OwnAt (h : Heap) (C : Addr) (bm bmB : List Value) (newId : String) : Prop :=
  ∃ N nm qn bs hdct sn sub ab col dd k0 k1 k2 k3 k5 mN, h.get? C = some (excClassObj nm qn C N bs bm hdct sn sub ab col dd k0 k1 k2 k3 k5 newId) ∧ h.Ns N mN ∧ mN "__init__" = none ∧ OwnTail h bmB bm
theorem own_obj {K : PySem.W.Frag} {h : Heap} {C : Addr} {bmB : List Value} {newId : String} (X : K.In h) (q : PySem.W.excIn K C bmB newId = true) : OwnAt h C (bmOf K C) bmB newId := by
  unfold PySem.W.excIn at q
  cases ho : K.lookup C with
  | none => rw [ho] at q; cases q
  | some o =>
    rw [ho] at q
    have hb : bmOf K C = (match o.data with
      | .cls d => d.mro.tail
      | _ => []) := by unfold bmOf; rw [ho]
    rw [hb]
    have hX := X C o ho
    split at q
    · next d cd sl he =>
      cases he
      split at q
      · next c1 bm a0 a1 a2 a3 nn a5 hm hs =>
        rw [Bool.and_eq_true, Bool.and_eq_true, Bool.and_eq_true, Bool.and_eq_true, Bool.and_eq_true] at q
        obtain ⟨⟨⟨⟨⟨z1, z2⟩, z3⟩, z4⟩, z5⟩, z6⟩ := q
        have z1 := beq_iff_eq.mp z1
        have z2 := beq_iff_eq.mp z2
        have z6 := beq_iff_eq.mp z6
        subst z1 z2
        have hsl : sl = #[a0, a1, a2, a3, some (.builtin nn), a5] := Array.toList_inj.mp hs
        obtain ⟨nm, bs, mro, ns, qn, hd, sn, sub, ab, col, del⟩ := cd
        have hm : mro = _ := hm
        have y3 : del = false := by simpa using z3
        subst hm hsl
        subst y3
        exact ⟨ns, nm, qn, bs, hd, sn, sub, ab, col, d, a0, a1, a2, a3, a5, _, hX, .of_isNs (PySem.W.isNs_of_in X z5), PySem.W.nsMap_none_of_in X z5 z6, PySem.W.tail_of_in X z4⟩
      · cases q
    · cases q

section
variable {P : Program} {w : World} {K : PySem.W.Frag} {mg : Str → Option Value} {base : Heap} {N : List Str} {qual : Str} {scope : Scope} {f : Addr} {cd : Value} {A : Around} {outer : List Env} {s : Shared} {H : Hp} {E : XK}
/-- raise C(e, ..) -/
def tRaise (C : Addr) (E : XK) (t : TA) : TS := fun _ σ H => t σ H fun vs H1 => vs.length ≤ sizeLine ∧ E (.ref C) none H1
theorem ps_raise {C : Addr} {bmB : List Value} {B newId initId : String} {x : Str} {p pos rpos : Pos} {e : Expr} {es : List Expr} {t : TA} (F : ExcBaseFacts B newId initId bmB) (hB : bmB.contains (.type "BaseException") = true)
    (hq : PySem.W.excIn K C bmB newId = true) (hg : Gl (cxOf (CXr P w) P w K mg base N qual scope f cd A outer s H E) x) (hm : mg x = some (.ref C)) (ha : PA (cxOf (CXr P w) P w K mg base N qual scope f cd A outer s H E) (e :: es) t)
    (hdb : (x == ("__debug__" : Str)) = false := by decide)
    (he : starEach (e :: es) (cxOf (CXr P w) P w K mg base N qual scope f cd A outer s H E).env = (false, eval e (cxOf (CXr P w) P w K mg base N qual scope f cd A outer s H E).env) :: starEach es (cxOf (CXr P w) P w K mg base N qual scope f cd A outer s H E).env := by rfl)
    (hpl : (backTo pos (starEach (e :: es) (cxOf (CXr P w) P w K mg base N qual scope f cd A outer s H E).env)).any (·.1) = false := by rfl) :
    PS (cxOf (CXr P w) P w K mg base N qual scope f cd A outer s H E) (.Raise (some (.Call (.Name x p) (e :: es) [] pos)) none rpos) (tRaise C E t) := by
  intro pins s1 σ H1 D I h
  obtain ⟨Nn, nm, qn, bs, hdct, sn, sub, ab, col, dd, k0, k1, k2, k3, k5, mN, hC, hN, hni, T⟩ := own_obj I.ok.mod.kin hq
  refine wpAny_Raise_call_subT (C := C) (nm := nm) (q := qn) (N := Nn) (bs := bs) (bm := bmOf K C) (hdct := hdct) (sn := sn) (sub := sub) (ab := ab) (col := col) (dd := dd) (k0 := k0) (k1 := k1) (k2 := k2) (k3 := k3) (k5 := k5) F (T.hasType hB) (I.ok.hd rfl) hpl hni ?_
  refine ld_glob I hg hm ⟨rfl, ?_⟩ hdb
  have h2 := ha pos pins s1 σ H1 _ I h
  rw [he] at h2 ⊢
  refine Calls.evalArgs_plain (thn h2 fun us s2 ⟨vs, H2, I2, r, q1, q2⟩ => ?_)
  have hk : ∀ b o, base.get? b = some o → s2.heap.get? b = some o := fun b o e => (I2.bs b o e).1
  refine ⟨rfl, by rw [← r.length]; exact q1, hk _ _ hC, hN.keeps hk, T.keeps hk, fun h' a mx => raise_out I2 mx q2⟩
end
end L2
/-! OWN RULES over the hand layer: an own exception is caught -/
namespace L2
open PySem PySem.Spec PyProof.Rows

section
variable {h g : Heap} {H : Hp} {a : Addr} {C : Value}
/-- the flying exception, the heap that hides it, and what every later heap of the landing keeps -/
theorem fly_step {base : Heap} {l : List Env} (hl : h.FunFrames base l) (x : XAt h g H a C) (hH : ∀ b, H b ≠ none → ∃ o, h.get? b = some o) (hg : ∀ b o, g.get? b = some o → ∃ o', h.get? b = some o') :
    ∃ B a0, Heap.FlyingW B l a C a0 h ∧ ∀ h', Heap.FlyingW B l a C a0 h' → h.UpToSlots h' →
      (∀ b o, h.get? b = some o → b ∉ frs l → (H b ≠ none ∨ g.get? b ≠ none) → h'.get? b = some o) ∧ (∀ b o, h.get? b = some o → b ∈ frs l → ∃ sl, h'.get? b = some { o with slots := sl }) ∧ ∃ ob, h'.get? a = some ob ∧ ob.cls = C := by
  obtain ⟨oe, vs, T, oT, ts, a0, x1, x2, x3, x4, x5, x6, x7, x8, x9, x10, x11, x12, x13⟩ := x
  have hin : ∀ e ∈ l, ∀ b, e.frame = some b → b ∈ frs l ++ [a, T] := fun e he b hb => List.mem_append_left _ (List.mem_filterMap.mpr ⟨e, he, hb⟩)
  refine ⟨PySem.W.hideAll h (frs l ++ [a, T]), a0, ⟨fun b o q => PySem.W.of_hideAll _ q, PySem.W.hideAll_none _ (by simp), PySem.W.funFrames_hide hl hin, oe, vs, T, oT, ts, x1, ⟨x2, x4⟩, x3, x5, PySem.W.hideAll_none _ (by simp), x6, x7, x8, x9⟩, fun h' fl us => ⟨fun b o hb n c => ?_, fun b o hb hm => ?_, fl.there⟩⟩
  · refine fl.1 b o (PySem.W.hideAll_get _ hb fun hm => ?_)
    rcases List.mem_append.mp hm with hm | hm
    · exact n hm
    · have hz : b = a ∨ b = T := by simpa using hm
      rcases hz with rfl | rfl
      · rcases c with c | c
        · exact c x10
        · exact c x12
      · rcases c with c | c
        · exact c x11
        · exact c x13
  · obtain ⟨_, o', ho', hnf⟩ := hl.mem hm
    rw [hb] at ho'; cases ho'
    exact us b o hb hnf
end

/-- how a caught exception is tracked: by its class -/
def ExcO (a : Addr) (C : Value) : HO := .ext fun h => ∃ o, h.get? a = some o ∧ o.cls = C
theorem excO_ok {P : Program} {w : World} {H : Hp} {h : Heap} {a : Addr} {C : Value} {o : Obj} (e : h.get? a = some o) (c : o.cls = C) : ObjOk P w H h a (ExcO a C) :=
  ⟨⟨o, e, c⟩, ⟨o, e⟩, fun _ _ ⟨o, e, c⟩ k => ⟨o, k o e, c⟩⟩
theorem HOk.adds {P : Program} {w : World} {H : Hp} {h : Heap} {a : Addr} {o : HO} (x : HOk P w H h) (hn : H a = none) (new : ObjOk P w (upd H a o) h a o) : HOk P w (upd H a o) h := fun b u e => by
  by_cases hb : b = a
  · subst hb; rw [upd_same] at e; cases e; exact new
  · rw [upd_ne hb] at e
    exact (x b u e).stay (fun _ _ _ q => q) (fun c q => by rw [upd_ne (ne_of_none q hn)]; exact q) fun c xs q => by rw [upd_ne (ne_of_none q hn)]; exact q

section
variable {fs : List Addr} {H1 H2 : Hp} {h0 h1 h2 : Heap}
theorem un_step (u : Un fs [] H1 H2 h0 h1) (keep : ∀ b o, h1.get? b = some o → b ∉ fs → (H2 b ≠ none ∨ h0.get? b ≠ none) → h2.get? b = some o) (slot : ∀ b o, h1.get? b = some o → b ∈ fs → ∃ sl, h2.get? b = some { o with slots := sl }) : Un fs [] H1 H2 h0 h2 := by
  refine ⟨fun b o e n hb _ => ?_, fun b o e n hb _ => ?_, u.free, fun b o e _ => ?_, u.tups, u.frzs, u.tbls⟩
  · exact keep b o (u.keep b o e n hb (by simp)) hb (.inr (by rw [e]; simp))
  · obtain ⟨sl, e1⟩ := u.slot b o e n hb (by simp)
    obtain ⟨sl2, e2⟩ := slot b _ e1 hb
    exact ⟨sl2, e2⟩
  · obtain ⟨o1, e1⟩ := u.there b o e (by simp)
    by_cases hb : b ∈ fs
    · obtain ⟨sl, e2⟩ := slot b o1 e1 hb
      exact ⟨_, e2⟩
    · exact ⟨o1, keep b o1 e1 hb (.inr (by rw [e]; simp))⟩
theorem un_add {a : Addr} {o : HO} (u : Un fs [] H1 H2 h0 h1) (ha : h0.get? a = none) (hn : H2 a = none) : Un fs [] H1 (upd H2 a o) h0 h1 := by
  refine ⟨u.keep, u.slot, fun b ob e n z => ?_, u.there, fun b xs q => ?_, fun b ob v q => ?_, fun b ps q => ?_⟩
  · rw [upd_ne (by rintro rfl; rw [ha] at e; cases e)]
    exact u.free b ob e n z
  · have := u.tups b xs q
    rw [upd_ne (ne_of_none this hn)]; exact this
  · have := u.frzs b ob v q
    rw [upd_ne (ne_of_none this hn)]; exact this
  · obtain ⟨m, e⟩ := u.tbls b ps q
    exact ⟨m, by rw [upd_ne (ne_of_none e hn)]; exact e⟩
end

section
variable {X : Cx} {pins : List (Addr × Obj)} {σ : St} {H1 H2 : Hp} {s1 s2 : Shared} {a : Addr} {C : Value}
/-- the state that the handler finds -/
theorem fly_inv (I : Inv X pins σ H1 s1) (os : s2.os = s1.os) (bare : AllBare s2.gens) (u : Un (frs X.stack) [] H1 H2 s1.heap s2.heap) (hok : HOk X.prog X.w H2 s2.heap) (x : XAt s2.heap s1.heap H2 a C) :
    ∃ B a0, Heap.FlyingW B X.stack a C a0 s2.heap ∧ ∀ h', Heap.FlyingW B X.stack a C a0 h' → s2.heap.UpToSlots h' → Inv X pins σ (upd H2 a (ExcO a C)) { s2 with heap := h' } := by
  have hst2 : s2.heap.FunFrames X.base X.stack := funs_un I.stack I.stkFree (fun _ hb => hb) u
  have hHa : H2 a = none := by obtain ⟨_, _, _, _, _, _, _, _, _, _, _, _, _, _, _, z, _⟩ := x; exact z
  have hna : s1.heap.get? a = none := by obtain ⟨_, _, _, _, _, _, _, _, _, _, _, _, _, _, _, _, _, z, _⟩ := x; exact z
  obtain ⟨B, a0, fl, st⟩ := fly_step hst2 x (fun b hb => hok.there b hb) (fun b o e => u.there b o e (by simp))
  refine ⟨B, a0, fl, fun h' fl' us => ?_⟩
  obtain ⟨keep, slot, ob, hob, hc⟩ := st h' fl' us
  have frFree : ∀ b ∈ frs X.stack, H2 b = none := fun b hm => by
    obtain ⟨_, o, ho, _⟩ := I.stack.mem hm
    exact u.free b o ho (I.stkFree b hm) (by simp)
  have hok' : HOk X.prog X.w H2 h' := hok.keptT fun b o hb e => keep b o e (fun hm => hb (frFree b hm)) (.inl hb)
  exact I.call' (s' := { s2 with heap := h' }) (ch := []) os (un_add (un_step u keep slot) hna hHa) (hok'.adds hHa (excO_ok hob hc)) bare (fun b z => absurd z (by simp))
end
end L2
/-! OWN RULES over the hand layer: try with one except clause -/
namespace L2
open PySem PySem.Spec PyProof.Rows

section
variable {X : Cx} {pins : List (Addr × Obj)} {σ : St} {H : Hp} {s : Shared}
/-- a plain local name is taken away -/
theorem unbind_ok {M : Model} {A : Around} {E : Value → Shared → Prop} {i : Nat} {n : Str} {pos : Pos} {Q : Unit → Shared → Prop} (I : Inv X pins σ H s) (hN : X.N.Nodup) (hi : X.N[i]? = some n) (hx : X.env.scope.names.lookup n = some .local)
    (h : ∀ s', Inv X pins (σ.set i none) H s' → Q () s') : wpAny M A (do bindName X.env n .none; unbindBehindTheSuite X.env n pos) Q E s := by
  have hcls : (X.env.scope.kind == .class || (X.env.scope.kind == .module && X.env.locals != X.env.globals)) = false := by rw [I.ok.kind]; rfl
  refine wpAny_bind (wpAny_bindName (store_ok (v := .non) I hN hi (.inl hx) rfl (fun s1 I1 => ?_) (.inr hx)))
  unfold unbindBehindTheSuite
  refine wpAny_onRaise ?_
  have hiσ : i < σ.length := by rw [I.len]; exact (List.getElem?_eq_some_iff.mp hi).1
  obtain ⟨m, hn, hl⟩ := id I1.loc
  obtain ⟨u, _, q⟩ := hl i n .non hi (List.getElem?_set_self hiσ) (.inl hx)
  have hm : m n = some u := by
    rcases q with ⟨_, e⟩ | ⟨k, _⟩
    · exact e
    · have hx' : X.env.kindOf n = some .local := hx
      rw [hx'] at k
      rcases k with k | k <;> cases k
  refine wpAny_unbindName_local hx hn hm hcls fun h' u' hn' hs => ?_
  have cne := I1.cne
  obtain ⟨oL, _, _, hoL, _⟩ := id hn
  have lt : ∀ b o, X.s₀.heap.get? b = some o → h'.get? b = s1.heap.get? b := fun b o e => hs.2 b (Nat.ne_of_lt (Nat.lt_of_lt_of_le (Heap.lt_size e) I1.ok.above))
  refine h { s1 with heap := h' } ⟨I1.ok, I1.os, I1.bare, ⟨fun b o e n hb hx => (lt b o e).trans (I1.base.keep b o e n hb hx), fun b o e n hb hx => ?_, I1.base.free, fun b o e hx => ?_, I1.base.tups, I1.base.frzs, I1.base.tbls⟩, ⟨_, hn', fun j y v' e1 e2 e3 => ?_⟩, fun y c e => ?_, I1.free, I1.freeC, fun p hp => ?_, fun b ob e => ?_, by simpa using I.len⟩
  · obtain ⟨sl, e1⟩ := I1.base.slot b o e n hb hx
    exact ⟨sl, (lt b o e).trans e1⟩
  · obtain ⟨o', e1⟩ := I1.base.there b o e hx
    exact ⟨o', (lt b o e).trans e1⟩
  · have hj : j ≠ i := by
      rintro rfl
      rw [List.getElem?_set_self hiσ] at e2; cases e2
    rw [List.getElem?_set_ne (Ne.symm hj)] at e2
    obtain ⟨u2, r2, q2⟩ := hl j y v' e1 (by rw [List.getElem?_set_ne (Ne.symm hj)]; exact e2) e3
    refine ⟨u2, r2, ?_⟩
    rcases q2 with ⟨k, e⟩ | ⟨k, c, e, z⟩
    · refine .inl ⟨k, ?_⟩
      have : y ≠ n := fun e => hj (nodup_ix hN e1 (e ▸ hi))
      simp [this, e]
    · exact .inr ⟨k, c, e, z.sameBut hs (cne y c e)⟩
  · obtain ⟨w', z⟩ := I1.cell y c e
    exact ⟨w', z.sameBut hs (cne y c e)⟩
  · obtain ⟨e, n', ne, nf, d⟩ := I1.pin p hp
    exact ⟨(hs.2 p.1 ne).trans e, n', ne, nf, d⟩
  · refine (I1.hok b ob e).stay (fun c v hc q => (hs.2 c ?_).trans q) (fun _ q => q) fun _ _ q => q
    rintro rfl
    rcases hc with rfl | hc
    · rw [I1.free] at e; cases e
    · rw [I1.free] at hc; cases hc
end

section
variable {M : Model} {A : Around} {E : Value → Shared → Prop} {h : Heap} {g : Array GenState} {d : Drawn} {t : Nat} {os : OsState}
/-- except D for an exception of the class C: C's row of bases has D -/
theorem matches_own {a C D : Addr} {bm bmB bmD bmE : List Value} {n1 n2 : String} {oe : Obj} {Q : Bool → Shared → Prop} (hC : OwnAt h C bm bmB n1) (hD : OwnAt h D bmD bmE n2) (he : h.get? a = some oe) (hcls : oe.cls = .ref C)
    (hB : bmE.contains (.type "BaseException") = true) (hm : (Value.ref C :: bm).contains (.ref D) = true) (hq : Q true ⟨h, g, d, t, os⟩) : wpAny M A (excMatches (.ref a) (.ref D)) Q E ⟨h, g, d, t, os⟩ := by
  obtain ⟨_, _, _, _, _, _, _, _, _, _, _, _, _, _, _, _, oC, _⟩ := hC
  obtain ⟨_, _, _, _, _, _, _, _, _, _, _, _, _, _, _, _, oD, _, _, TD⟩ := hD
  have hcB : (Value.ref D :: bmD).contains (.type "BaseException") = true := by rw [List.contains_cons, TD.hasType hB, Bool.or_true]
  have f := tc_notTuple
  unfold excMatches
  repeat (first
    | (with_reducible refine wpAny_loadPart_at he ?_; rw [hcls])
    | with_reducible refine wpAny_loadPart_at oD ?_
    | (with_reducible refine wpAny_isSubtype_exc oD ?_; rw [hcB])
    | (with_reducible refine wpAny_isSubtype_exc oC ?_; rw [hm])
    | wp_step)
  exact hq
end

/-- within an except suite -/
def Cx.marked (X : Cx) (e : Value) : Cx := { X with A := X.A.mark (some e), calm := false, xe := fun _ _ => False }
section
variable {X : Cx} {pins : List (Addr × Obj)} {σ : St} {H : Hp} {s : Shared} {e : Value}
theorem Inv.mark (I : Inv X pins σ H s) : Inv (X.marked e) pins σ H s :=
  ⟨⟨I.ok.mod, I.ok.kind, I.ok.glob, I.ok.blt, I.ok.above, I.ok.inj, I.ok.has, I.ok.cab, (fun z => nomatch z), I.ok.frames, I.ok.stk, I.ok.exf, I.ok.bs, I.ok.bsz, I.ok.noex, I.ok.exfs, I.ok.funs, I.ok.frf⟩, I.os, I.bare, I.base, I.loc, I.cell, I.free, I.freeC, I.pin, I.hok, I.len⟩
theorem Inv.unmark (ok : X.Ok) (I : Inv (X.marked e) pins σ H s) : Inv X pins σ H s := ⟨ok, I.os, I.bare, I.base, I.loc, I.cell, I.free, I.freeC, I.pin, I.hok, I.len⟩
end
end L2
/-! OWN RULES over the hand layer: expressions and suites that may raise; try -/
namespace L2
open PySem PySem.Spec PyProof.Rows

/-- another wish for exceptions -/
def Cx.xed (X : Cx) (xe : Value → Shared → Prop) : Cx := { X with xe := xe }
section
variable {X : Cx} {pins : List (Addr × Obj)} {σ : St} {H : Hp} {s : Shared} {xe : Value → Shared → Prop}
theorem Inv.xed (I : Inv X pins σ H s) : Inv (X.xed xe) pins σ H s :=
  ⟨⟨I.ok.mod, I.ok.kind, I.ok.glob, I.ok.blt, I.ok.above, I.ok.inj, I.ok.has, I.ok.cab, I.ok.hd, I.ok.frames, I.ok.stk, I.ok.exf, I.ok.bs, I.ok.bsz, I.ok.noex, I.ok.exfs, I.ok.funs, I.ok.frf⟩, I.os, I.bare, I.base, I.loc, I.cell, I.free, I.freeC, I.pin, I.hok, I.len⟩
theorem Inv.unxed (I : Inv (X.xed xe) pins σ H s) : Inv X pins σ H s :=
  ⟨⟨I.ok.mod, I.ok.kind, I.ok.glob, I.ok.blt, I.ok.above, I.ok.inj, I.ok.has, I.ok.cab, I.ok.hd, I.ok.frames, I.ok.stk, I.ok.exf, I.ok.bs, I.ok.bsz, I.ok.noex, I.ok.exfs, I.ok.funs, I.ok.frf⟩, I.os, I.bare, I.base, I.loc, I.cell, I.free, I.freeC, I.pin, I.hok, I.len⟩
end

abbrev TEX := St → Hp → VK → XK → Prop
abbrev TSX := Ends → (St → XK) → St → Hp → Prop
def PEX (X : Cx) (e : Expr) (t : TEX) : Prop :=
  ∀ (pins : List (Addr × Obj)) (s : Shared) (σ : St) (H : Hp) (Q : VK) (E : XK) (XE : Value → Shared → Prop), Inv X pins σ H s → t σ H Q E →
    (∀ H1 s1 e s', Inv X pins σ H1 s1 → CXr X.prog X.w X.stack H1 s1 E e s' → XE e s') → wpAny (model X.prog X.w) X.A (eval e X.env) (EP X pins σ Q) XE s
def PSX (X : Cx) (st : List Stmt) (t : TSX) : Prop :=
  ∀ (pins : List (Addr × Obj)) (s : Shared) (σ : St) (H : Hp) (D : Ends) (E : St → XK) (XE : Value → Shared → Prop), Inv X pins σ H s → t D E σ H →
    (∀ σ1 H1 s1 e s', Inv X pins σ1 H1 s1 → CXr X.prog X.w X.stack H1 s1 (E σ1) e s' → XE e s') → wpAny (model X.prog X.w) X.A (execs st X.env) (SP X pins D) XE s

section
variable {X : Cx} {k : Nat} {f C : Addr} {fd : FuncData} {ps : List Str} {sp : Sp} {dvs : List V} {ds : List Value} {x m : Str} {p pos apos : Pos} {e o : Expr} {es : List Expr} {ta : TE} {t : TA}
theorem run_fnX {pins : List (Addr × Obj)} {σ : St} {H : Hp} {s : Shared} {Q : VK} {E : XK} {XE : Value → Shared → Prop} {us : List Value} {vs : List V} (F : FnOk X.prog X.w X.K X.mg X.base (CXr X.prog X.w) k f fd ps sp) (hr : Room k X.A) (hb : Binds X.K fd ps ds) (hd : Vals dvs ds)
    (I : Inv X pins σ H s) (r : Vals vs us) (h : sp (vs ++ dvs) H Q E) (hx : ∀ e s', CXr X.prog X.w X.stack H s E e s' → XE e s') : wpAny (model X.prog X.w) X.A (call (.ref f) us) (EP X pins σ Q) XE s := by
  have r2 : Vals (vs ++ dvs) (us ++ ds) := r.append hd
  have hl : (us ++ ds).length = ps.length := by rw [← r2.length]; exact F.len _ _ _ _ h
  refine wpAny_call (codeAny_mono (F.run X.A X.stack s H ⟨us, []⟩ (us ++ ds) (vs ++ dvs) Q E hr I.env0 (hb s us I.kIn hl) r2 h) fun r s' hq => ?_)
  cases r with
  | error e => exact hx e s' hq
  | ok fl =>
    cases fl with
    | ret u => exact I.after hq
    | next => exact False.elim hq
    | brk => exact False.elim hq
    | cont => exact False.elim hq
def xCall (sp : Sp) (dvs : List V) (t : TA) : TEX := fun σ H Q E => t σ H fun vs H1 => sp (vs ++ dvs) H1 Q E
theorem pex_call (F : FnOk X.prog X.w X.K X.mg X.base (CXr X.prog X.w) k f fd ps sp) (hr : Room k X.A) (hg : Gl X x) (hm : X.mg x = some (.ref f)) (hk : PySem.W.keepIn X.K (.ref f) = true) (hb : Binds X.K fd ps ds) (hd : Vals dvs ds)
    (ha : ∀ xe, PA (X.xed xe) (e :: es) t) (hdb : (x == ("__debug__" : Str)) = false := by decide) (he : starEach (e :: es) X.env = (false, eval e X.env) :: starEach es X.env := by rfl) (hpl : (backTo pos (starEach es X.env)).any (·.1) = false := by rfl) :
    PEX X (.Call (.Name x p) (e :: es) [] pos) (xCall sp dvs t) := by
  intro pins s σ H Q E XE I h hx
  refine wpAny_Call_Name_kw (ld_glob I hg hm ?_ hdb)
  refine PySem.W.callWith_K (h₀ := X.base) I.ok.mod.kin hk (thn (ha XE pos pins s σ H _ I.xed h) fun us s1 ⟨vs, H1, I1, r, q⟩ => ⟨I1.kIn, ?_⟩) he hpl
  exact run_fnX F hr hb hd I1.unxed r q fun e s' c => hx _ _ e s' I1.unxed c
def xMeth (C : Addr) (m : Str) (sp : Sp) (dvs : List V) (ta : TE) (t : TA) : TEX := fun σ H Q E => ta σ H fun x H1 => ∃ a dx fs, x = .ref a ∧ H1 a = some (.ins C dx fs) ∧ fs.lookup m = none ∧ t σ H1 fun vs H2 => sp (x :: (vs ++ dvs)) H2 Q E
theorem pex_meth {pl : Sem Bool} (he : ∀ xe, PE (X.xed xe) o ta) (c : Cls X.K C) (hm : Meth X.K C m f) (F : FnOk X.prog X.w X.K X.mg X.base (CXr X.prog X.w) k f fd ps sp) (hr : Room k X.A) (hb : Binds X.K fd ps ds) (hd : Vals dvs ds) (ha : ∀ xe, PA (X.xed xe) (e :: es) t)
    (hst : starEach (e :: es) X.env = (false, eval e X.env) :: starEach es X.env := by rfl) (hpl : (backTo pos (starEach es X.env)).any (·.1) = false := by rfl)
    (ht : eval (.Call (.Attribute o m apos) (e :: es) [] pos) X.env = (do
      let ov ← eval o X.env
      standAt apos.atName
      let (f, first) ← holding [ov] (getMethod ov m pl)
      callWith pos f first (backTo pos (starEach (e :: es) X.env)) (backToKw pos (keywordEach [] X.env))) := by rfl) :
    PEX X (.Call (.Attribute o m apos) (e :: es) [] pos) (xMeth C m sp dvs ta t) := by
  intro pins s σ H Q E XE I h hx
  refine PySem.W.methodCall_KW (pl := pl) (thn (he XE pins s σ H _ I.xed h) fun u s1 ⟨x, H1, I1, rx, a, dx, fs, ex, ea, l, q⟩ => ?_) ht
  subst ex
  obtain rfl : u = Value.ref a := rx
  refine getmeth_ok I1.unxed ea c hm l ?_
  refine PySem.W.callWith_K (first := [.ref a]) (h₀ := X.base) I.ok.mod.kin hm.kp (thn (ha XE pos pins s1 σ H1 _ I1 q) fun us s2 ⟨vs, H2, I2, r, q2⟩ => ⟨I2.kIn, ?_⟩) hst hpl
  exact run_fnX (us := .ref a :: us) (vs := .ref a :: vs) F hr hb hd I2.unxed (.cons rfl r) q2 fun e s' c => hx _ _ e s' I2.unxed c
/-- what never raises -/
theorem pex_pe {te : TE} (he : ∀ xe, PE (X.xed xe) e te) : PEX X e (fun σ H Q _ => te σ H Q) := by
  intro pins s σ H Q E XE I h _
  exact thn (he XE pins s σ H Q I.xed h) fun u s1 ⟨v, H1, I1, r, q⟩ => ⟨v, H1, I1.unxed, r, q⟩
end

section
variable {X : Cx} {e : Expr} {pos : Pos} {t : TEX} {st : Stmt} {rest : List Stmt} {a b : List Stmt} {ta tb : TSX}
def xRet (t : TEX) : TSX := fun D E σ H => t σ H D.rt (E σ)
theorem psx_ret (he : PEX X e t) : PSX X [.Return (some e) pos] (xRet t) := by
  intro pins s σ H D E XE I h hx
  exact wpAny_execs_cons (wpAny_Return_some (thn (he pins s σ H _ _ XE I h fun H1 s1 => hx σ H1 s1) fun v s1 ⟨x, H1, I1, r1, q1⟩ => ⟨x, σ, H1, I1, r1, q1⟩))
def xSet (i : Nat) (t : TEX) : TSX := fun D E σ H => t σ H (fun v H1 => D.nx (σ.set i (some v)) H1) (E σ)
theorem psx_set {i : Nat} {x : Str} {pos' : Pos} (hN : X.N.Nodup) (hi : X.N[i]? = some x) (hx : Loc X.env.scope x) (he : PEX X e t) (hs : swapsWith e (some (.Name x pos')) pos.line X.env = pure false := by rfl) (hf : X.fn x = true ∨ X.env.scope.names.lookup x = some .local := by first | exact .inl rfl | exact .inr rfl | assumption) :
    PSX X [.Assign [.Name x pos'] e pos] (xSet i t) := by
  intro pins s σ H D E XE I h hxe
  refine wpAny_execs_cons (wpAny_Assign_Name (thn (he pins s σ H _ _ XE I h fun H1 s1 => hxe σ H1 s1) fun v s1 ⟨y, H1, I1, r1, q1⟩ => ?_) hs)
  exact store_ok I1 hN hi hx r1 (fun s2 I2 => wpAny_execs_nil ⟨_, H1, I2, q1⟩) hf
def xDrop (t : TEX) : TSX := fun D E σ H => t σ H (fun _ H1 => D.nx σ H1) (E σ)
theorem psx_expr (he : PEX X e t) (hs : swapsWith e none pos.line X.env = pure false := by rfl) : PSX X [.Expr e pos] (xDrop t) := by
  intro pins s σ H D E XE I h hxe
  exact wpAny_execs_cons (wpAny_Expr_any (thn (he pins s σ H _ _ XE I h fun H1 s1 => hxe σ H1 s1) fun v s1 ⟨x, H1, I1, r1, q1⟩ => wpAny_execs_nil ⟨σ, H1, I1, q1⟩) I.quiet hs)
end
end L2
/-! OWN RULES over the hand layer: try with one except clause, by an own class -/
namespace L2
open PySem PySem.Spec PyProof.Rows

/-- behind a suite whose name goes -/
def Ends.minus (D : Ends) (i : Nat) : Ends := { nx := fun σ H => D.nx (σ.set i none) H, rt := D.rt, bk := fun σ H => D.bk (σ.set i none) H, ct := fun σ H => D.ct (σ.set i none) H }
/-- the classes that the clause takes -/
structure Takes (K : PySem.W.Frag) (D : Addr) (Ok : Addr → Prop) : Prop where
  own : ∃ bmB nid, PySem.W.excIn K D bmB nid = true ∧ bmB.contains (.type "BaseException") = true
  all : ∀ c, Ok c → (∃ bmB nid, PySem.W.excIn K c bmB nid = true) ∧ (Value.ref c :: bmOf K c).contains (.ref D) = true
theorem OwnAt.keeps {h h' : Heap} {C : Addr} {bm bmB : List Value} {nid : String} (x : OwnAt h C bm bmB nid) (k : ∀ b o, h.get? b = some o → h'.get? b = some o) : OwnAt h' C bm bmB nid := by
  obtain ⟨N, nm, qn, bs, hdct, sn, sub, ab, col, dd, k0, k1, k2, k3, k5, mN, hC, hN, hni, T⟩ := x
  exact ⟨N, nm, qn, bs, hdct, sn, sub, ab, col, dd, k0, k1, k2, k3, k5, mN, k _ _ hC, hN.keeps k, hni, T.keeps k⟩

section
variable {X : Cx} {x n : Str} {np hpos pos : Pos} {body suite : List Stmt} {b₀ : Stmt} {i : Nat} {tb : TSX} {ts : TS} {D0 : Addr} {Ok : Addr → Prop}
def tTryAs (Ok : Addr → Prop) (i : Nat) (tb : TSX) (ts : TS) : TS := fun D σ H => tb D (fun σ1 C _ H2 => ∃ c, C = .ref c ∧ Ok c ∧ ∀ a, H2 a = none → ts (D.minus i) (σ1.set i (some (.ref a))) (upd H2 a (ExcO a (.ref c)))) σ H
def tTry (Ok : Addr → Prop) (tb : TSX) (ts : TS) : TS := fun D σ H => tb D (fun σ1 C _ H2 => ∃ c, C = .ref c ∧ Ok c ∧ ∀ a, H2 a = none → ts D σ1 (upd H2 a (ExcO a (.ref c)))) σ H
theorem ps_try_as (hst : X.stack = X.env :: X.outer) (hf : X.env.frame = some X.env.locals) (hN : X.N.Nodup) (hi : X.N[i]? = some n) (hn : X.env.scope.names.lookup n = some .local) (hg : Gl X x) (hm : X.mg x = some (.ref D0)) (tk : Takes X.K D0 Ok)
    (hb : PSX X body tb) (hs : ∀ a, PSs (X.marked (.ref a)) (b₀ :: suite) ts) (hdb : (x == ("__debug__" : Str)) = false := by decide) :
    PS X (.Try body [.ExceptHandler (some (.Name x np)) (some n) (b₀ :: suite) hpos] [] [] pos) (tTryAs Ok i tb ts) := by
  intro pins s σ H D I h
  refine wpAny_Try_except (wpAny_mono (hb pins s σ H D _ _ I h fun σ1 H1 s1 e s2 I1 hc => ?_) (fun f s1 q => ?_) fun _ _ z => z)
  rotate_left
  · cases f with
    | next => exact wpAny_execs_nil q
    | ret v => exact q
    | brk => exact q
    | cont => exact q
  obtain ⟨a, C, H2, rfl, os2, bare2, u, hok, xa, c, rfl, okc, hts⟩ := hc
  have hHa : H2 a = none := by obtain ⟨_, _, _, _, _, _, _, _, _, _, _, _, _, _, _, z, _⟩ := xa; exact z
  obtain ⟨B, a0, fl, st⟩ := fly_inv I1 os2 bare2 u hok xa
  rw [hst] at fl st
  refine wpAny_looks_onW (by rw [I1.ok.frames, hst]) hf fl fun h3 held us3 => ?_
  refine wpAny_landsW held fun h4 fl4 us4 => ?_
  have I4 := st h4 fl4 (us3.trans us4)
  obtain ⟨ob, hob, hobc⟩ := fl4.there
  refine wpAny_handleBy_cons (codeAny_handlers_test (ld_glob (X := X.marked (.ref a)) I4.mark hg hm ?_ hdb)) (by intro q; cases q)
  obtain ⟨⟨bE, nE, qD, hB⟩, hall⟩ := tk
  obtain ⟨⟨bC, nC, qC⟩, hcD⟩ := hall c okc
  have k4 : ∀ b o, X.base.get? b = some o → h4.get? b = some o := fun b o e => (I4.bs b o e).1
  refine matches_own ((own_obj I.ok.mod.kin qC).keeps k4) ((own_obj I.ok.mod.kin qD).keeps k4) hob hobc hB hcD ?_
  refine codeAny_handlers_suite_as ?_
  refine lands_againW fl4 fun h5 fl5 us5 => ?_
  have I5 := st h5 fl5 ((us3.trans us4).trans us5)
  refine store_ok (X := X.marked (.ref a)) (v := .ref a) I5.mark hN hi (.inl hn) rfl (fun s6 I6 => ?_) (.inr hn)
  refine wpAny_mono (hs a pins s6 _ _ (D.minus i) I6 (hts a hHa)) (fun f s7 q => ?_) fun _ _ z => z.elim
  cases f with
  | next =>
    obtain ⟨σ', H', I', q⟩ := q
    exact unbind_ok (I'.unmark I.ok) hN hi hn fun s8 I8 => ⟨_, _, I8, q⟩
  | brk =>
    obtain ⟨σ', H', I', q⟩ := q
    exact unbind_ok (I'.unmark I.ok) hN hi hn fun s8 I8 => ⟨_, _, I8, q⟩
  | cont =>
    obtain ⟨σ', H', I', q⟩ := q
    exact unbind_ok (I'.unmark I.ok) hN hi hn fun s8 I8 => ⟨_, _, I8, q⟩
  | ret v =>
    obtain ⟨y, σ', H', I', r, q⟩ := q
    exact unbind_ok (I'.unmark I.ok) hN hi hn fun s8 I8 => ⟨y, _, _, I8, r, q⟩
theorem ps_try (hst : X.stack = X.env :: X.outer) (hf : X.env.frame = some X.env.locals) (hg : Gl X x) (hm : X.mg x = some (.ref D0)) (tk : Takes X.K D0 Ok)
    (hb : PSX X body tb) (hs : ∀ a, PSs (X.marked (.ref a)) (b₀ :: suite) ts) (hdb : (x == ("__debug__" : Str)) = false := by decide) :
    PS X (.Try body [.ExceptHandler (some (.Name x np)) none (b₀ :: suite) hpos] [] [] pos) (tTry Ok tb ts) := by
  intro pins s σ H D I h
  refine wpAny_Try_except (wpAny_mono (hb pins s σ H D _ _ I h fun σ1 H1 s1 e s2 I1 hc => ?_) (fun f s1 q => ?_) fun _ _ z => z)
  rotate_left
  · cases f with
    | next => exact wpAny_execs_nil q
    | ret v => exact q
    | brk => exact q
    | cont => exact q
  obtain ⟨a, C, H2, rfl, os2, bare2, u, hok, xa, c, rfl, okc, hts⟩ := hc
  have hHa : H2 a = none := by obtain ⟨_, _, _, _, _, _, _, _, _, _, _, _, _, _, _, z, _⟩ := xa; exact z
  obtain ⟨B, a0, fl, st⟩ := fly_inv I1 os2 bare2 u hok xa
  rw [hst] at fl st
  refine wpAny_looks_onW (by rw [I1.ok.frames, hst]) hf fl fun h3 held us3 => ?_
  refine wpAny_landsW held fun h4 fl4 us4 => ?_
  have I4 := st h4 fl4 (us3.trans us4)
  obtain ⟨ob, hob, hobc⟩ := fl4.there
  refine wpAny_handleBy_cons (codeAny_handlers_test (ld_glob (X := X.marked (.ref a)) I4.mark hg hm ?_ hdb)) (by intro q; cases q)
  obtain ⟨⟨bE, nE, qD, hB⟩, hall⟩ := tk
  obtain ⟨⟨bC, nC, qC⟩, hcD⟩ := hall c okc
  have k4 : ∀ b o, X.base.get? b = some o → h4.get? b = some o := fun b o e => (I4.bs b o e).1
  refine matches_own ((own_obj I.ok.mod.kin qC).keeps k4) ((own_obj I.ok.mod.kin qD).keeps k4) hob hobc hB hcD ?_
  refine codeAny_handlers_suite ?_
  refine lands_againW fl4 fun h5 fl5 us5 => ?_
  have I5 := st h5 fl5 ((us3.trans us4).trans us5)
  refine wpAny_mono (hs a pins _ _ _ D I5.mark (hts a hHa)) (fun f s7 q => ?_) fun _ _ z => z.elim
  cases f with
  | next =>
    obtain ⟨σ', H', I', q⟩ := q
    exact ⟨_, _, I'.unmark I.ok, q⟩
  | brk =>
    obtain ⟨σ', H', I', q⟩ := q
    exact ⟨_, _, I'.unmark I.ok, q⟩
  | cont =>
    obtain ⟨σ', H', I', q⟩ := q
    exact ⟨_, _, I'.unmark I.ok, q⟩
  | ret v =>
    obtain ⟨y, σ', H', I', r, q⟩ := q
    exact ⟨y, _, _, I'.unmark I.ok, r, q⟩
end
end L2
/-! OWN RULES over the hand layer: isinstance of a caught exception -/
namespace L2
open PySem PySem.Spec PyProof.Rows

/-- what is asked of the class -/
structure ExcLook (K : PySem.W.Frag) (C : Addr) : Prop where
  own : ∃ bmB nid, PySem.W.excIn K C bmB nid = true ∧ bmB.contains (.type "BaseException") = true ∧ bmB.contains (.type "object") = true
  ga : PySem.W.findIn K (.ref C) "__getattribute__" = some (some (.builtin "BaseException.__getattribute__"))
  nga : PySem.W.findIn K (.ref C) "__getattr__" = some none
  cl : PySem.W.findIn K (.ref C) "__class__" = some (some (.builtin "object.__class__"))

section
variable {prog : Program} {w : World} {A : Around} {E : Value → Shared → Prop} {h : Heap} {g : Array GenState} {d : Drawn} {t : Nat} {os : OsState} {a C : Addr} {o : Obj} {bm bmB : List Value} {nid : String}
theorem xc_get {R : Result → Shared → Prop} (hC : OwnAt h C bm bmB nid) (hO : bmB.contains (.type "object") = true) (hx : h.get? a = some o) (hc : o.cls = .ref C) (hq : R (.ok (.ret (.ref C))) ⟨h, g, d, t, os⟩) :
    codeAny (model prog w) A (.call (.builtin "getset_descriptor.__get__") ⟨[.builtin "object.__class__", .ref a, .ref C], []⟩) R ⟨h, g, d, t, os⟩ := by
  obtain ⟨_, _, _, _, _, _, _, _, _, _, _, _, _, _, _, _, oC, _, _, T⟩ := hC
  have ty5 : Shared.TypeIs ⟨h, g, d, t, os⟩ (.builtin "object.__class__") "getset_descriptor" := F.typeOf_object_class
  have hcO : (Value.ref C :: bm).contains (.type (".".intercalate ("object.__class__".cutAt '.').dropLast)) = true := by
    rw [F.owner_object_class, List.contains_cons, T.hasType hO, Bool.or_true]
  refine codeAny_call_builtin F.slot_gs_get.plain F.entry_gs_get
    (F.slot_gs_get.check _ _ _ _ _ _ _ _ ty5 (F.args_gs_get _ _ _) ?_)
  repeat (any_goals (first | assumption | (with_reducible refine wpAny_loadPart_at hx ?_; rw [hc]) | (with_reducible refine wpAny_isSubtype_exc oC ?_; rw [hcO]) | wp_step))
  refine ⟨Code.quiet_builtin _ (by decide +kernel),
    codeAny_builtin F.entry_object_class ?_⟩
  repeat (any_goals (first | assumption | (with_reducible refine wpAny_loadPart_at hx ?_; rw [hc]) | wp_step))
theorem xc_entry {tk : Tok} {Q : Fin → Shared → Prop} {K : PySem.W.Frag} (X : K.In h) (L : ExcLook K C) (hC : OwnAt h C bm bmB nid) (hO : bmB.contains (.type "object") = true) (hx : h.get? a = some o) (hc : o.cls = .ref C) (hq : Q (.done (.ret (.ref C))) ⟨h, g, d, t, os⟩) :
    wpAny (model prog w) A (Builtin.«object.__getattribute__» ⟨[Value.ref a, .str "__class__" tk], []⟩) Q E ⟨h, g, d, t, os⟩ := by
  have ty5 : Shared.TypeIs ⟨h, g, d, t, os⟩ (.builtin "object.__class__") "getset_descriptor" := F.typeOf_object_class
  have ofCls := F.typeOf_object_class
  have ofGet := F.slot_gs_get.lookup
  have ofSet := F.slot_gs_set.lookup
  have lk := PySem.W.looks_findIn (M := model prog w) X L.cl
  repeat (any_goals (first | assumption | (with_reducible refine wpAny_loadPart_at hx ?_; rw [hc]) | with_reducible refine lk.at ?_ | wp_step))
  refine xc_get hC hO hx hc ?_
  repeat (any_goals (first | assumption | wp_step))
theorem xc_check {M : Model} {nv : Value} {Q : Unit → Shared → Prop} (hC : OwnAt h C bm bmB nid) (hB : bmB.contains (.type "BaseException") = true) (hx : h.get? a = some o) (hc : o.cls = .ref C) (hq : Q () ⟨h, g, d, t, os⟩) :
    wpAny M A (checkBuiltinCall "BaseException.__getattribute__" ⟨[.ref a, nv], []⟩) Q E ⟨h, g, d, t, os⟩ := by
  obtain ⟨_, _, _, _, _, _, _, _, _, _, _, _, _, _, _, _, oC, _, _, T⟩ := hC
  have k1 : builtinKind "BaseException.__getattribute__" = some .slot := by decide +kernel
  have k2 : splitId "BaseException.__getattribute__" = some ("BaseException", "__getattribute__") := by decide +kernel
  have k3 : (Value.ref C :: bm).contains (.type "BaseException") = true := by rw [List.contains_cons, T.hasType hB, Bool.or_true]
  have k4 := F.args_bexc_ga (.ref a) nv
  simp only [checkBuiltinCall, k1, k2]
  refine wpAny_bind ?_
  unfold isInstance
  repeat (first | (with_reducible refine wpAny_loadPart_at hx ?_; rw [hc]) | (with_reducible refine wpAny_isSubtype_exc oC ?_; rw [k3]) | wp_step)
  exact hq
theorem xc_call {tk : Tok} {R : Result → Shared → Prop} {K : PySem.W.Frag} (X : K.In h) (L : ExcLook K C) (hC : OwnAt h C bm bmB nid) (hB : bmB.contains (.type "BaseException") = true) (hO : bmB.contains (.type "object") = true) (hx : h.get? a = some o) (hc : o.cls = .ref C) (hq : R (.ok (.ret (.ref C))) ⟨h, g, d, t, os⟩) :
    codeAny (model prog w) A (.call (.builtin "BaseException.__getattribute__") ⟨[.ref a, .str "__class__" tk], []⟩) R ⟨h, g, d, t, os⟩ :=
  codeAny_call_builtin F.excAttr_ValueError.ga.plain F.entry_bexc_ga (xc_check hC hB hx hc (xc_entry X L hC hO hx hc hq))
theorem xc_by {tk : Tok} {Q : Value → Shared → Prop} {K : PySem.W.Frag} (X : K.In h) (L : ExcLook K C) (hC : OwnAt h C bm bmB nid) (hB : bmB.contains (.type "BaseException") = true) (hO : bmB.contains (.type "object") = true) (hx : h.get? a = some o) (hc : o.cls = .ref C) (hq : Q (.ref C) ⟨h, g, d, t, os⟩) :
    wpAny (model prog w) A (getAttrBy (.ref a) (.str "__class__" tk) false) Q E ⟨h, g, d, t, os⟩ := by
  have f3 := F.excAttr_ValueError.ga.bind (.ref a)
  have ne1 : (Value.builtin "BaseException.__getattribute__" == .builtin "object.__getattribute__") = false := by decide +kernel
  have ne2 : (onTheHeap (.ref C) && Value.builtin "BaseException.__getattribute__" == .builtin "object.__getattribute__") = false := by rw [ne1, Bool.and_false]
  have l1 := PySem.W.looks_findIn (M := model prog w) X L.ga
  have l2 := PySem.W.looks_findIn (M := model prog w) X L.nga
  repeat (any_goals (first | assumption | (with_reducible refine wpAny_loadPart_at hx ?_; rw [hc]) | with_reducible refine l1.at ?_ | with_reducible refine l2.at ?_ | wp_step))
  refine xc_call X L hC hB hO hx hc ?_
  repeat (any_goals (first | assumption | wp_step))
theorem xc_attr {Q : Option Value → Shared → Prop} {K : PySem.W.Frag} (X : K.In h) (L : ExcLook K C) (hC : OwnAt h C bm bmB nid) (hB : bmB.contains (.type "BaseException") = true) (hO : bmB.contains (.type "object") = true) (hx : h.get? a = some o) (hc : o.cls = .ref C)
    (hq : Q (some (.ref C)) ⟨h, g, d, t + 1, os⟩) : wpAny (model prog w) A (getAttr? (.ref a) "__class__") Q E ⟨h, g, d, t, os⟩ := by
  unfold getAttr? getAttrBy?
  repeat (any_goals (first | assumption | with_reducible apply xc_by X L hC hB hO hx hc | wp_step))
end
/-- what isinstance asks of it -/
theorem kitx_exc {K : PySem.W.Frag} {a C : Addr} (L : ExcLook K C) : PySem.W.KitX K (.ref a) (.ref C) (fun h => ∃ o, h.get? a = some o ∧ o.cls = .ref C) where
  ty := fun M h _ ⟨o, e, c⟩ => c ▸ (PySem.W.Looks.ld e).andThen .now
  it := fun M h X _ => by
    obtain ⟨_, _, q, _, _⟩ := L.own
    obtain ⟨_, _, _, _, _, _, _, _, _, _, _, _, _, _, _, _, oC, _⟩ := own_obj X q
    intro A' Q' E' s' k z
    unfold isType loadHead
    exact wpAny_bind (wpAny_loadPart (k _ _ oC) (wpAny_pure z))
  ne := fun h tp dd its n sl X e => by
    obtain ⟨_, _, q, _, _⟩ := L.own
    obtain ⟨_, _, _, _, _, _, _, _, _, _, _, _, _, _, _, _, oC, _⟩ := own_obj X q
    refine Bool.eq_false_iff.mpr fun z => ?_
    have e2 : C = tp := Value.ref.inj (beq_iff_eq.mp z)
    subst e2
    have z2 : Value.type "type" = Value.type "tuple" := congrArg (fun x : Option Obj => x.elim Value.none Obj.cls) (oC.symm.trans e)
    exact absurd (Value.type.inj z2) (by decide)
  ca := fun {prog w A E Q s} X ⟨o, e, c⟩ k => by
    obtain ⟨_, _, q, hB, hO⟩ := L.own
    obtain ⟨h, g, d, t, os⟩ := s
    exact xc_attr X L (own_obj X q) hB hO e c k

section
variable {X : Cx} {pins : List (Addr × Obj)} {σ : St} {H : Hp} {s : Shared}
theorem isx_ok {A : Around} {E : Value → Shared → Prop} {Q : Value → Shared → Prop} {a C : Addr} {c : Value} {b : Bool} (I : Inv X pins σ H s) (ea : H a = some (ExcO a (.ref C))) (L : ExcLook X.K C) (e : PySem.W.kitOne X.K (.ref C) c = some b) (h : ∀ tk, Q (.bool b) { s with toks := tk }) :
    wpAny (model X.prog X.w) A (call (.builtin "isinstance") [.ref a, c]) Q E s := by
  obtain ⟨p, _, _⟩ := (show ObjOk X.prog X.w H s.heap a (ExcO a (.ref C)) from I.hok a _ ea)
  exact PySem.W.kia_one (kitx_exc L) I.kIn p e (fun z => nomatch z) h
/-- a class as it stands in a call -/
def IsCls (y : V) (c : Value) : Prop := (∃ T, y = .ty T ∧ c = .type T) ∨ ∃ D, y = .ref D ∧ c = .ref D
theorem k_isx {K : PySem.W.Frag} (hK : X.K = K := by rfl) : CallR X (.builtin "isinstance") (fun xs H Q => ∃ a y c C b, xs = [.ref a, y] ∧ IsCls y c ∧ H a = some (ExcO a (.ref C)) ∧ ExcLook K C ∧ PySem.W.kitOne K (.ref C) c = some b ∧ Q (.bl b) H) := by
  subst hK
  intro pins s σ H xs us Q I r h
  obtain ⟨a, y, c, C, b, rfl, hy, ea, L, e, q⟩ := h
  obtain ⟨u, v, rfl, ru, rv⟩ := vals2 r
  cases ru
  have hc : v = c := by
    rcases hy with ⟨T, rfl, rfl⟩ | ⟨D, rfl, rfl⟩
    · exact (show v = Value.type T from rv)
    · exact (show v = Value.ref D from rv)
  subst hc
  exact isx_ok I ea L e fun tk => ⟨.bl b, H, I.tok _, rfl, q⟩
end
end L2
/-! OWN RULES over the hand layer: slices of texts, walks over texts -/
namespace L2
open PySem PySem.Spec PyProof.Rows

section
variable {X : Cx} {tg : Expr}
/-! ### t[lo:hi] of a text -/
def rSlS : V → Option Int → Option Int → Hp → VK → Prop := fun x lo hi H Q => ∃ z, x = .str z ∧ z.length ≤ sizeLine ∧ Q (.str (Txt.slice z lo hi)) H
theorem part_of {v : Value} {k : Option Int} (p : IsPart v k) : ∃ o : Option (Int × Tok), partValue o = v ∧ o.map (·.1) = k := by
  cases p with
  | none => exact ⟨none, rfl, rfl⟩
  | int i t => exact ⟨some (i, t), rfl, rfl⟩
theorem sl_str : SlR X rSlS := by
  intro pins s σ H x v vl vu lo hi sl Q I rx hs pl pu h
  obtain ⟨z, rfl, hz, q⟩ := h
  obtain ⟨t, rfl⟩ := rx
  obtain ⟨l, el, ml⟩ := part_of pl
  obtain ⟨u, eu, mu⟩ := part_of pu
  refine ⟨"str", _, F.slot_str_getitem.lookup, typeIs_str _ _ _, ?_⟩
  obtain ⟨o, h1, h2, h3⟩ := hs
  refine wpAny_getItem_str_slice (l := l) (u := u) (st := none) ⟨o, h1, h2, by rw [el, eu]; exact h3⟩ rfl ?_
  have e : sliceMade z t l u none = if ((1 : Int) == 1 && (Builtin.Str.strSliceIndices lo hi 1 z.length).length == z.length) = true then .val (.str z t) else .str ⟨((Builtin.Str.strSliceIndices lo hi 1 z.length).filterMap (z.cps[·]?)).toArray⟩ := by
    subst ml mu; rfl
  rw [e]
  refine post_val_or_str ⟨Nat.le_trans (Txt.slice_le z lo hi) hz, fun t' k => ?_⟩
  exact ⟨.str (Txt.slice z lo hi), H, I.tok _, ⟨_, rfl⟩, q⟩

/-! ### the signs of a text -/
def Its (z : Str) : It := ⟨fun i _ => i < z.length, fun i H x H' => H' = H ∧ ∃ c, z.cps[i]? = some c ∧ x = .str ⟨#[c]⟩, fun i _ => z.length ≤ i⟩
theorem turn_str {P : Program} {w : World} {K : PySem.W.Frag} (z : Str) (t : Tok) (it : Addr) (n : String) (hn : n = "str_ascii_iterator" ∨ n = "str_iterator") : Turn P w K tg (Its z) [it] it (fun i h => h.IsStrIter it n z t i) where
  mem := by simp
  obj := fun i h st b hb => by
    have e : b = it := by simpa using hb
    subst e
    obtain ⟨o, e, c, d⟩ := st
    exact ⟨o, e, fun v z => by rw [d] at z; cases z⟩
  keep := fun i h h' st k => by
    obtain ⟨o, e, c⟩ := st
    exact ⟨o, k it (by simp) o e, c⟩
  item := by
    intro X hP hw hK hc i pins s σ H E I hf st hg
    subst hP hw hK
    obtain ⟨f0, f1, f2, f3, f4, f5⟩ := hf it (by simp)
    have hi : i < z.cps.size := hg
    have hx : z.cps[i]? = some z.cps[i] := by simp [hi]
    have fin : ∀ h', h'.IsStrIter it n z t (i + 1) → Heap.SameBut it s.heap h' → ∃ u, some (Value.str ⟨#[z.cps[i]]⟩ s.toks) = some u ∧
        wpAny (model X.prog X.w) X.A (letOwnedTupleGo tg (.ref it) u) (fun _ s2 => ∃ x H', Inv X pins σ H' s2 ∧ RelV x u ∧ (Its z).yld i H x H' ∧ s2.heap.IsStrIter it n z t (i + 1) ∧ ∀ b ∈ [it], H' b = none) E { s with heap := h', toks := s.toks + 1 } := fun h' st' sb => by
      have I1 : Inv X pins σ H { s with heap := h', toks := s.toks + 1 } := I.turned (fun b o hb e => (sb.2 b hb).trans e) f0 f1 f3 f4 f5
      obtain ⟨o, e, c, d⟩ := id st'
      exact ⟨_, rfl, go_of (s := { s with heap := h', toks := s.toks + 1 }) e c d (by rcases hn with rfl | rfl <;> decide) ⟨.str ⟨#[z.cps[i]]⟩, H, I1, ⟨_, rfl⟩, ⟨rfl, _, hx, rfl⟩, st', fun b hb => (hf b hb).1⟩⟩
    rcases hn with rfl | rfl
    · exact wpAny_pyNext_ascii_item st hx fin
    · exact wpAny_pyNext_wide_item st hx fin
  done := by
    intro X hP hw hK hc i pins s σ H E I hf st hg
    subst hP hw hK
    obtain ⟨f0, f1, f2, f3, f4, f5⟩ := hf it (by simp)
    have hx : z.cps[i]? = none := by simpa using (show z.cps.size ≤ i from hg)
    rcases hn with rfl | rfl
    · exact wpAny_pyNext_ascii_end (I.ok.hd hc) st hx fun h' eb => ⟨rfl, I.turned (t' := s.toks) (fun b o hb e => eb b o hb e) f0 f1 f3 f4 f5⟩
    · exact wpAny_pyNext_wide_end (I.ok.hd hc) st hx fun h' eb => ⟨rfl, I.turned (t' := s.toks) (fun b o hb e => eb b o hb e) f0 f1 f3 f4 f5⟩
  self := fun _ _ _ _ _ st h => by
    rcases hn with rfl | rfl
    · exact wpAny_pyIter_striter_ascii st h
    · exact wpAny_pyIter_striter_wide st h
def iStr (tl : TE) : TI := fun σ H R => tl σ H fun x H1 => ∃ z, x = .str z ∧ R (Its z) H1
theorem pi_str {l : Expr} {tl : TE} (hl : PE X l tl) : PI X tg l (iStr tl) := by
  intro pins s σ H R I h
  refine thn (hl pins s σ H _ I h) fun v s1 ⟨x, H1, I1, r1, q1⟩ => ?_
  obtain ⟨z, rfl, q⟩ := q1
  obtain ⟨t, rfl⟩ := r1
  have fin : ∀ n : String, (n = "str_ascii_iterator" ∨ n = "str_iterator") → PIE X pins σ tg R (.ref s1.heap.objs.size) { s1 with heap := s1.heap.push { cls := .type n, data := .fields #[.str z t, .int 0 0] } } := fun n hn => by
    refine ⟨s1.heap.objs.size, [s1.heap.objs.size], _, _, H1, rfl, I1.kept (t' := s1.toks) fun b o e => Heap.get?_push_of_some _ e, turn_str z t _ n hn, ⟨_, Heap.get?_push_size _ rfl, rfl, rfl⟩, fun b hb => ?_, q⟩
    have e : b = s1.heap.objs.size := by simpa using hb
    subst e
    exact I1.fpOk (Nat.le_refl _) (I1.hok.fresh (Nat.le_refl _))
  cases ha : z.cps.all (· < 128)
  · exact wpAny_pyIter_wide ha (fin _ (.inr rfl))
  · exact wpAny_pyIter_ascii ha (fin _ (.inl rfl))
end
end L2
/-! OWN RULES over the hand layer: all of a list of truths, texts with braces -/
namespace L2
open PySem PySem.Spec PyProof.Rows

section
variable {X : Cx}
theorem truths_at {bs : List Bool} {its : List Value} (r : Vals (bs.map V.bl) its) {i : Nat} {v : Value} (e : its[i]? = some v) : v = .bool (bs.getD i false) := by
  have hl := r.length
  obtain ⟨hi, _⟩ := List.getElem?_eq_some_iff.mp e
  have hb : i < bs.length := by rw [List.length_map] at hl; omega
  have hx : (bs.map V.bl)[i]? = some (V.bl (bs.getD i false)) := by simp [hb]
  obtain ⟨u, e2, ru⟩ := r.get hx
  rw [e] at e2; cases e2
  exact ru
theorem range_all (bs : List Bool) : ((List.range bs.length).all fun i => bs.getD i false) = bs.all id := by
  rw [Bool.eq_iff_iff, List.all_eq_true, List.all_eq_true]
  constructor
  · intro h x hx
    obtain ⟨i, hi, e⟩ := List.getElem_of_mem hx
    have := h i (List.mem_range.mpr hi)
    simpa [List.getD_eq_getElem?_getD, List.getElem?_eq_getElem hi, e] using this
  · intro h i hi
    have hi := List.mem_range.mp hi
    have := h bs[i] (List.getElem_mem hi)
    simpa [List.getD_eq_getElem?_getD, List.getElem?_eq_getElem hi] using this
/-- all(xs), xs a list of truths -/
theorem call_allL (hc : X.calm = true) : CallR X (.builtin "all") (fun xs H Q => ∃ (p : Addr) (bs : List Bool), xs = [.ref p] ∧ SqL X.K H p (bs.map V.bl) ∧ Q (.bl (bs.all id)) H) := by
  intro pins s σ H vs us Q I r h
  obtain ⟨p, bs, rfl, hS, q⟩ := h
  obtain ⟨u, rfl, ru⟩ := vals1 r
  cases ru
  obtain ⟨its, rv, pl, hz⟩ := I.list hS
  have hl : its.length = bs.length := by have := rv.length; rw [List.length_map] at this; omega
  refine call_all_walk (wpAny_pyIter_list pl.isList ?_)
  obtain ⟨ol, el, cl, dl⟩ := id pl.isList
  have hpne : p ≠ s.heap.objs.size := Nat.ne_of_lt (Heap.lt_size el)
  have W := Walks.list (prog := X.prog) (w := X.w) (A := X.A.in1) (show X.A.in1.handled = none from I.ok.hd hc) s.heap.objs.size p hpne its.toArray
  refine ⟨s.heap.objs.size, [s.heap.objs.size, p], [s.heap.objs.size], its.toArray.size, _, _, fun i => bs.getD i false, rfl, W, ⟨⟨_, Heap.get?_push_size _ rfl, rfl, rfl⟩, ⟨ol, Heap.get?_push_of_some _ el, cl, dl⟩⟩, ?_, ?_⟩
  · intro i v s' Q' E' hP hQ
    have e : v = .bool (bs.getD i false) := truths_at rv (by simpa using hP)
    subst e
    exact wpAny_pure hQ
  · intro h' tk hk
    have e : ((List.range its.toArray.size).all fun i => bs.getD i false) = bs.all id := by
      rw [List.size_toArray, hl]; exact range_all bs
    rw [e]
    refine ⟨.bl (bs.all id), H, I.kept (t' := tk) fun b o e => hk b o (fun z => ?_) (Heap.get?_push_of_some _ e), rfl, q⟩
    have z' : b = s.heap.objs.size := by simpa using z
    subst z'
    exact absurd (Heap.lt_size e) (Nat.lt_irrefl _)
/-! ### f'..' -/
/-- one part of a text with braces; its value is not followed, only that it is a text of no more than a million signs -/
def PP (X : Cx) (e : Expr) (t : St → Hp → (Hp → Prop) → Prop) : Prop :=
  ∀ (pins : List (Addr × Obj)) (s : Shared) (σ : St) (H : Hp) (R : Hp → Prop), Inv X pins σ H s → t σ H R →
    wpAny (model X.prog X.w) X.A (eval e X.env) (fun v s1 => ∃ y u H1, v = .str y u ∧ y.length ≤ 1000000 ∧ Inv X pins σ H1 s1 ∧ R H1) X.xe s
def PJ (X : Cx) (es : List Expr) (t : St → Hp → (Hp → Prop) → Prop) : Prop :=
  ∀ (pins : List (Addr × Obj)) (s : Shared) (σ : St) (H : Hp) (acc : Str) (R : Hp → Prop) (Q : Str → Shared → Prop), Inv X pins σ H s → t σ H R → acc.length + es.length * 1000000 ≤ sizeLine →
    (∀ H' out s', R H' → out.length ≤ sizeLine → Inv X pins σ H' s' → Q out s') → Joins (model X.prog X.w) X.A X.xe (evalEach es X.env) acc Q s
variable {e v1 v2 : Expr} {es : List Expr} {te : TE} {tp t : St → Hp → (Hp → Prop) → Prop} {pos : Pos}
theorem pj_nil : PJ X [] (fun _ H R => R H) := by
  intro pins s σ H acc R Q I h hl hQ
  exact hQ H acc s h (by simpa using hl) I
theorem pj_cons (hp : PP X e tp) (h : PJ X es t) (he : evalEach (e :: es) X.env = eval e X.env :: evalEach es X.env := by rfl) : PJ X (e :: es) (fun σ H R => tp σ H fun H1 => t σ H1 R) := by
  intro pins s σ H acc R Q I hh hl hQ
  rw [he]
  refine thn (hp pins s σ H _ I hh) fun v s1 ⟨y, u, H1, ev, hy, I1, q⟩ => ⟨y, u, ev, ?_, ?_⟩
  · rw [strLen_append]; rw [List.length_cons] at hl; omega
  · refine h pins s1 σ H1 _ R Q I1 q ?_ hQ
    rw [strLen_append]; rw [List.length_cons] at hl; omega
theorem pp_str {z : Str} {j : _} (hz : z.length ≤ 1000000) : PP X (.Constant (.str z) j pos) (fun _ H R => R H) :=
  fun _ _ _ H _ I h => Calls.Constant_str ⟨z, _, H, rfl, hz, I.tok _, h⟩
theorem pp_int (he : PE X e te) : PP X (.FormattedValue e (-1) none pos) (fun σ H R => te σ H fun x H1 => ∃ i : Int, x = .int i ∧ i.natAbs.log2 < 1920 ∧ (Str.ofString (toString i)).length ≤ 1000000 ∧ R H1) := by
  intro pins s σ H R I h
  refine wpAny_FormattedValue_plain (thn (he pins s σ H _ I h) fun v s1 ⟨x, H1, I1, r1, i, ex, h1, h2, q⟩ => ?_)
  subst ex
  obtain ⟨t, rfl⟩ := r1
  exact wpAny_formatField_int h1 ⟨_, _, H1, rfl, h2, I1.tok _, q⟩
theorem pp_txt (he : PE X e te) : PP X (.FormattedValue e (-1) none pos) (fun σ H R => te σ H fun x H1 => ∃ z, x = .str z ∧ z.length ≤ 1000000 ∧ R H1) := by
  intro pins s σ H R I h
  refine wpAny_FormattedValue_plain (thn (he pins s σ H _ I h) fun v s1 ⟨x, H1, I1, r1, z, ex, h2, q⟩ => ?_)
  subst ex
  obtain ⟨t, rfl⟩ := r1
  exact wpAny_formatField_str ⟨_, _, H1, rfl, h2, I1, q⟩ ⟨_, _, H1, rfl, h2, I1.tok _, q⟩ (Nat.le_trans h2 (by decide))
theorem pp_repr (he : PE X e te) : PP X (.FormattedValue e 114 none pos) (fun σ H R => te σ H fun x H1 => ∃ z, x = .str z ∧ (reprText z).length ≤ 1000000 ∧ R H1) := by
  intro pins s σ H R I h
  refine wpAny_FormattedValue_repr (thn (he pins s σ H _ I h) fun v s1 ⟨x, H1, I1, r1, z, ex, h2, q⟩ => ?_)
  subst ex
  obtain ⟨t, rfl⟩ := r1
  have hz : (reprText z).length ≤ sizeLine := Nat.le_trans h2 (by decide)
  refine wpAny_pyReprObj_gives (typeIs_str _ _ _) F.slot_str_repr F.entry_str_repr (F.args_str_repr_1 _) (gives_str_repr z t) ?_ rfl hz
  exact wpAny_formatField_str ⟨_, _, H1, rfl, h2, I1.tok _, q⟩ ⟨_, _, H1, rfl, h2, (I1.tok _).tok _, q⟩ hz
/-- f'..': a text that is not followed -/
def tFstr (t : St → Hp → (Hp → Prop) → Prop) : TE := fun σ H Q => t σ H fun H' => ∀ z : Str, z.length ≤ sizeLine → Q (.str z) H'
theorem pe_fstr (h : PJ X (v1 :: v2 :: es) t) (hl : (v1 :: v2 :: es).length * 1000000 ≤ sizeLine := by decide) : PE X (.JoinedStr (v1 :: v2 :: es) pos) (tFstr t) := by
  intro pins s σ H Q I hh
  refine wpAny_JoinedStr (h pins s σ H Str.empty _ _ I hh (by simpa [Str.length, Str.empty] using hl) fun H' out s' q ho I' => ⟨ho, .str out, H', I'.tok _, ⟨_, rfl⟩, q out ho⟩)
end
end L2
/-! OWN RULES over the hand layer: own classes of exceptions at the top, texts cut in lists of signs -/
namespace L2
open PySem PySem.Spec PyProof.Rows

theorem bt_ValueError : bootBuiltins "ValueError" = some (.type "ValueError") := by decide +kernel
/-- an own class of exceptions over ValueError -/
structure XCls (K : PySem.W.Frag) (mg : Str → Option Value) (x : Str) (C : Addr) : Prop where
  q : PySem.W.excIn K C [.type "ValueError", .type "Exception", .type "BaseException", .type "object"] "ValueError.__new__" = true
  m : mg x = some (.ref C)
theorem XCls.look {K : PySem.W.Frag} {mg : Str → Option Value} {x : Str} {C : Addr} (c : XCls K mg x C) (ga : PySem.W.findIn K (.ref C) "__getattribute__" = some (some (.builtin "BaseException.__getattribute__"))) (nga : PySem.W.findIn K (.ref C) "__getattr__" = some none)
    (cl : PySem.W.findIn K (.ref C) "__class__" = some (some (.builtin "object.__class__"))) : ExcLook K C := ⟨⟨_, _, c.q, by decide, by decide⟩, ga, nga, cl⟩

section
variable {X : Cx} {K : PySem.W.Frag}
theorem k_all (hc : X.calm = true) (hK : X.K = K := by rfl) : CallR X (.builtin "all") (fun xs H Q => ∃ (p : Addr) (bs : List Bool), xs = [.ref p] ∧ SqL K H p (bs.map V.bl) ∧ Q (.bl (bs.all id)) H) := by subst hK; exact call_allL hc
end
theorem comp_str {z : Str} {caps : List Nat} {tt : TT} {te : TE} {σ : St} {H : Hp} {R : List V → Hp → Prop} (Pv : Nat → List V → Hp → Prop) (h0 : Pv 0 [] H) (hl : ∀ i ys H, i ≤ z.length → Pv i ys H → ys.length ≤ sizeLine)
    (hs : ∀ i c ys H, z.cps[i]? = some c → Pv i ys H → tt (capσ caps σ (some (.str ⟨#[c]⟩))) H fun b H2 => if b = true then te (capσ caps σ (some (.str ⟨#[c]⟩))) H2 fun y H3 => Pv (i + 1) (ys ++ [y]) H3 else Pv (i + 1) ys H2) (hd : ∀ ys H, Pv z.length ys H → R ys H) :
    ∃ W : Nat → Nat → List V → Hp → Prop, (∃ m, W 0 m [] H) ∧ ∀ i m ys H, W i m ys H → ys.length ≤ sizeLine ∧ (((Its z).stop i H ∧ R ys H) ∨ ((Its z).go i H ∧ ∃ N : List V → Hp → Prop, (∀ ys' H', N ys' H' → ∃ m', m' < m ∧ W (i + 1) m' ys' H') ∧ ∀ v H', (Its z).yld i H v H' →
      tt (capσ caps σ (some v)) H' fun b H2 => if b = true then te (capσ caps σ (some v)) H2 fun y H3 => N (ys ++ [y]) H3 else N ys H2)) := by
  refine ⟨fun i m ys H => m = z.length - i ∧ i ≤ z.length ∧ Pv i ys H, ⟨z.length, by simp, Nat.zero_le _, h0⟩, ?_⟩
  rintro i m ys H ⟨rfl, hi, p⟩
  refine ⟨hl i ys H hi p, ?_⟩
  by_cases hlt : i < z.length
  · refine .inr ⟨hlt, Pv (i + 1), fun ys' H' p' => ⟨z.length - (i + 1), by omega, rfl, hlt, p'⟩, fun x H' y => ?_⟩
    obtain ⟨e, c, hc, y⟩ := y
    subst e y
    exact hs i c ys _ hc p
  · have e : i = z.length := by omega
    subst e
    exact .inl ⟨Nat.le_refl _, hd ys H p⟩

/-! ### texts as lists of signs -/
abbrev tx (l : List Nat) : Str := ⟨l.toArray⟩
theorem tx_len (l : List Nat) : (tx l).length = l.length := by simp [Str.length]
theorem tx_app (a b : List Nat) : tx a ++ tx b = tx (a ++ b) := by
  show Str.append _ _ = _
  simp [Str.append]
theorem tx_inj {a b : List Nat} (h : tx a = tx b) : a = b := by
  have := congrArg (fun s : Str => s.cps.toList) h
  simpa using this
theorem tx_of (z : Str) : ∃ l, z = tx l := ⟨z.cps.toList, by cases z; simp⟩
theorem tx_dec (a b : List Nat) : decide (V.str (tx a) = V.str (tx b)) = decide (a = b) := by
  rw [decide_eq_decide]
  exact ⟨fun h => tx_inj (V.str.inj h), fun h => by rw [h]⟩
theorem in_one (l : List Nat) (c : Nat) : (!(Builtin.Str.occurrences (tx l) (tx [c]) 0 (tx l).length 1).isEmpty) = decide (c ∈ l) := by
  have := StrLaws.found_one (tx l) c
  simpa using this
theorem slice_lo_hi {l : List Nat} {a b : Nat} (hab : a ≤ b) (ha : a ≤ l.length) : Txt.slice (tx l) (some (a : Int)) (some (b : Int)) = tx ((l.drop a).take (b - a)) := by
  have hs : ∀ b', a ≤ b' → b' ≤ l.length → Txt.slice (tx l) (some (a : Int)) (some (b' : Int)) = tx ((l.drop a).take (b' - a)) := fun b' h1 h2 => by
    have := StrLaws.sliceText_nat (tx l) h1 (by rw [tx_len]; exact h2)
    exact this
  by_cases hb : b ≤ l.length
  · exact hs b hab hb
  · have e : Txt.slice (tx l) (some (a : Int)) (some (b : Int)) = Txt.slice (tx l) (some (a : Int)) (some (l.length : Int)) := by
      have i : Builtin.Str.strSliceIndices (some (a : Int)) (some (b : Int)) 1 (tx l).length = Builtin.Str.strSliceIndices (some (a : Int)) (some (l.length : Int)) 1 (tx l).length := by
        rw [tx_len]
        have n1 : ¬ ((b : Int) < 0) := by omega
        have n2 : ¬ ((l.length : Int) < 0) := by omega
        have m1 : min (b : Int) (l.length : Int) = l.length := by omega
        have m2 : min (l.length : Int) (l.length : Int) = l.length := by omega
        simp [Builtin.Str.strSliceIndices, n1, n2, m1]
      unfold Txt.slice
      rw [i]
    rw [e, hs l.length ha (Nat.le_refl _)]
    congr 1
    have e1 : (l.drop a).length = l.length - a := List.length_drop
    rw [List.take_of_length_le (by omega), List.take_of_length_le (by omega)]
theorem slice_from {l : List Nat} {a : Nat} (ha : a ≤ l.length) : Txt.slice (tx l) (some (a : Int)) none = tx (l.drop a) := by
  have e : Txt.slice (tx l) (some (a : Int)) none = Txt.slice (tx l) (some (a : Int)) (some (l.length : Int)) := by
    unfold Txt.slice
    rw [StrLaws.sliceIdx_none_hi, tx_len]
  rw [e, slice_lo_hi ha ha]
  congr 1
  have e1 : (l.drop a).length = l.length - a := List.length_drop
  rw [List.take_of_length_le (by omega)]
theorem repr_short {l : List Nat} (h : ∀ c ∈ l, c < 16 ^ 8) : (reprText (tx l)).length ≤ 10 * l.length + 2 := by
  have := StrLaws.reprText_len (tx l) (by simpa using h)
  rw [tx_len] at this
  exact this
end L2
/-! OWN RULES over the hand layer: D.get(k, d) of a dict of the module; int('1') -/
namespace PySem
theorem meets_int_new_one (t : Tok) : Meets (Builtin.«int.__new__» ⟨[.type "int", .str ⟨#[49]⟩ t], []⟩) (Made.int 1).spec :=
  Meets.of_wp fun prog w A R s hs => by
    obtain ⟨hp, g, d, tk, os⟩ := s
    have f1 := F.conv_sub_int
    have f2 := F.madeHere_int
    have hT : (⟨hp, g, d, tk, os⟩ : Shared).TypeIs (.str ⟨#[49]⟩ t) "str" := rfl
    have f3 : typeLookup (.type "str") "__int__" = pure none := by rw [typeLookup_type, builtinLookup_eq_fast]; kernel_rfl
    have f4 : typeLookup (.type "str") "__index__" = pure none := by rw [typeLookup_type, builtinLookup_eq_fast]; kernel_rfl
    have f5 : typeLookup (.type "str") "__trunc__" = pure none := by rw [typeLookup_type, builtinLookup_eq_fast]; kernel_rfl
    repeat (any_goals (first | assumption | wp_step))
    all_goals try (with_unfolding_all show wpAny _ _ (mkInt 1 >>= _) _ _ _)
    repeat (any_goals (first | assumption | wp_step))
    all_goals first | exact ⟨_, rfl, hs⟩ | skip
end PySem
namespace L2
open PySem PySem.Spec PyProof.Rows
section
variable {X : Cx}
theorem call_int_txt : CallR X (.type "int") (fun xs H Q => (∃ k, xs = [.bl k] ∧ Q (.int (if k then 1 else 0)) H) ∨ ∃ z, xs = [.str z] ∧ z = tx [49] ∧ Q (.int 1) H) := by
  intro pins s σ H xs us Q I r h
  rcases h with ⟨k, rfl, q⟩ | ⟨z, rfl, rfl, q⟩
  · exact call_int1 pins s σ H _ us Q I r (.inr ⟨k, rfl, q⟩)
  · obtain ⟨u, rfl, t, rfl⟩ := vals1 r
    exact call_int_1 (meets_int_new_one t) (show (Made.int 1).post _ s from ⟨rfl, .int 1, H, I.tok _, ⟨_, rfl⟩, q⟩)
def tTopGet (w : World) (K : PySem.W.Frag) (td : TE) (t : TA) : TE := fun σ H Q => td σ H fun x H1 => ∃ a kvs, x = .ref a ∧ TopD w K a kvs ∧ t σ H1 fun vs H2 => ∃ k z, vs = [.str k, z] ∧ Q ((kvs.lookup k).getD z) H2
variable {o e f : Expr} {td : TE} {t : TA} {apos cpos : Pos} {K : PySem.W.Frag} {w : World}
theorem pe_getTop (ho : PE X o td) (ha : PA X [e, f] t) (hK : X.K = K := by rfl) (hw : X.w = w := by rfl)
    (hbase : attributeBase o "get" X.env (eval o X.env) = eval o X.env := by rfl)
    (hfew : ((backTo cpos (starEach [e, f] X.env)).all (fun x => !x.1) && (backToKw cpos (keywordEach [] X.env)).all (fun x => x.1.isSome)
      && decide ([e, f].length + ([] : List Keyword).length + (if ([] : List Keyword).isEmpty then 0 else 1) < 30)) = true := by rfl)
    (hline : (apos.endLine == cpos.line) = true := by rfl) (hs : starEach [e, f] X.env = (false, eval e X.env) :: starEach [f] X.env := by rfl) (hplain : (backTo cpos (starEach [f] X.env)).any (·.1) = false := by rfl) :
    PE X (.Call (.Attribute o "get" apos) [e, f] [] cpos) (tTopGet w K td t) := by
  subst hK; subst hw
  intro pins s σ H Q I h
  refine wpAny_Call_method_late hbase hfew hline rfl (thn (ho pins s σ H _ I h) fun v s1 ⟨x, H1, I1, r1, a, kvs, ex, T, q1⟩ => ?_)
  subst ex
  cases r1
  obtain ⟨f0, hm, hf⟩ := T.map (prog := X.prog) I1.kIn
  obtain ⟨es, n, hl, _, _⟩ := T.ex
  refine ⟨"dict", _, PySem.F.plainAttrs_dict, PySem.F.slot_dict_get, PySem.F.type_dict_get, hm.typeIs, fun b eb => ?_, ?_⟩
  · cases eb
    exact ⟨_, I1.kIn _ _ hl, rfl⟩
  have hA := ha cpos pins s1 σ H1 _ I1 q1
  rw [hs] at hA ⊢
  refine Calls.callWith_builtin (by show (false || (backTo cpos (starEach [f] X.env)).any (·.1)) = false; rw [hplain] <;> rfl) (Calls.evalArgs_plain (thn hA fun us s2 ⟨vs, H2, I2, r2, q2⟩ => ?_))
  obtain ⟨k, z, rfl, q⟩ := q2
  obtain ⟨u1, u2, rfl, ⟨t1, rfl⟩, rz⟩ := vals2 r2
  obtain ⟨f1, hm1, hf1⟩ := T.map (prog := X.prog) I2.kIn
  refine call_meetsIn PySem.F.slot_dict_get hm1.typeIs PySem.F.entry_dict_get (PySem.F.args_dict_get_3 _ _ _) (meets_dict_get_default (strKind X.prog X.w) a (strKind_is X.prog X.w k t1) T.lo u2) ⟨f1, hm1, _, H2, I2.tok _, ?_, q⟩
  have hr := hf1 k
  cases h1 : kvs.lookup k with
  | none => rw [h1] at hr; rw [hr.none_of]; exact rz
  | some y => rw [h1] at hr; obtain ⟨w', e', r'⟩ := hr.some_of; rw [e']; exact r'
end
end L2
/-! OWN RULES over the hand layer: any and sum of a list, a <= b <= c -/
namespace L2
open PySem PySem.Spec PyProof.Rows
section
variable {X : Cx} {K : PySem.W.Frag}
theorem range_any (bs : List Bool) : ((List.range bs.length).any fun i => bs.getD i false) = bs.any id := by
  rw [Bool.eq_iff_iff, List.any_eq_true, List.any_eq_true]
  constructor
  · rintro ⟨i, hi, h⟩
    have hi := List.mem_range.mp hi
    exact ⟨bs[i], List.getElem_mem hi, by simpa [List.getD_eq_getElem?_getD, List.getElem?_eq_getElem hi] using h⟩
  · rintro ⟨x, hx, h⟩
    obtain ⟨i, hi, e⟩ := List.getElem_of_mem hx
    exact ⟨i, List.mem_range.mpr hi, by simpa [List.getD_eq_getElem?_getD, List.getElem?_eq_getElem hi, e] using h⟩
theorem k_any (hc : X.calm = true) (hK : X.K = K := by rfl) : CallR X (.builtin "any") (fun xs H Q => ∃ (p : Addr) (bs : List Bool), xs = [.ref p] ∧ SqL K H p (bs.map V.bl) ∧ Q (.bl (bs.any id)) H) := by
  subst hK
  intro pins s σ H vs us Q I r h
  obtain ⟨p, bs, rfl, hS, q⟩ := h
  obtain ⟨u, rfl, ru⟩ := vals1 r
  cases ru
  obtain ⟨its, rv, pl, hz⟩ := I.list hS
  have hl : its.length = bs.length := by have := rv.length; rw [List.length_map] at this; omega
  refine call_any_walk (wpAny_pyIter_list pl.isList ?_)
  obtain ⟨ol, el, cl, dl⟩ := id pl.isList
  have hpne : p ≠ s.heap.objs.size := Nat.ne_of_lt (Heap.lt_size el)
  have W := Walks.list (prog := X.prog) (w := X.w) (A := X.A.in1) (show X.A.in1.handled = none from I.ok.hd hc) s.heap.objs.size p hpne its.toArray
  refine ⟨s.heap.objs.size, [s.heap.objs.size, p], [s.heap.objs.size], its.toArray.size, _, _, fun i => bs.getD i false, rfl, W, ⟨⟨_, Heap.get?_push_size _ rfl, rfl, rfl⟩, ⟨ol, Heap.get?_push_of_some _ el, cl, dl⟩⟩, ?_, ?_⟩
  · intro i v s' Q' E' hP hQ
    have e : v = .bool (bs.getD i false) := truths_at rv (by simpa using hP)
    subst e
    exact wpAny_pure hQ
  · intro h' tk hk
    have e : ((List.range its.toArray.size).any fun i => bs.getD i false) = bs.any id := by
      rw [List.size_toArray, hl]; exact range_any bs
    rw [e]
    refine ⟨.bl (bs.any id), H, I.kept (t' := tk) fun b o e => hk b o (fun z => ?_) (Heap.get?_push_of_some _ e), rfl, q⟩
    have z' : b = s.heap.objs.size := by simpa using z
    subst z'
    exact absurd (Heap.lt_size e) (Nat.lt_irrefl _)
theorem pre_nat (ns : List Nat) : ∀ j, j ≤ ns.length → preSum (fun i => ((ns.getD i 0 : Nat) : Int)) j = (((ns.take j).sum : Nat) : Int)
  | 0, _ => by simp [preSum]
  | j + 1, h => by
    have ih := pre_nat ns j (by omega)
    have hj : j < ns.length := by omega
    show preSum (fun i => ((ns.getD i 0 : Nat) : Int)) j + ((ns.getD j 0 : Nat) : Int) = _
    rw [ih, List.take_succ_eq_append_getElem hj, List.sum_append]
    simp [List.getD_eq_getElem?_getD, List.getElem?_eq_getElem hj]
theorem take_le (ns : List Nat) (j : Nat) : (ns.take j).sum ≤ ns.sum := by
  have h := congrArg List.sum (List.take_append_drop j ns)
  rw [List.sum_append] at h
  omega
theorem nats_at {ns : List Nat} {its : List Value} (r : Vals (ns.map fun n => V.int (n : Nat)) its) {i : Nat} {v : Value} (e : its[i]? = some v) : ∃ t, v = .int ((ns.getD i 0 : Nat) : Int) t := by
  have hl := r.length
  obtain ⟨hi, _⟩ := List.getElem?_eq_some_iff.mp e
  have hb : i < ns.length := by rw [List.length_map] at hl; omega
  have hx : (ns.map fun n => V.int (n : Nat))[i]? = some (V.int ((ns.getD i 0 : Nat) : Int)) := by simp [hb]
  obtain ⟨u, e2, ru⟩ := r.get hx
  rw [e] at e2; cases e2
  exact ru
theorem k_sum (hc : X.calm = true) (hK : X.K = K := by rfl) : CallR X (.builtin "sum") (fun xs H Q => ∃ (p : Addr) (ns : List Nat), xs = [.ref p] ∧ SqL K H p (ns.map fun n => V.int (n : Nat)) ∧ ns.sum ≤ 1000000 ∧ Q (.int (ns.sum : Nat)) H) := by
  subst hK
  intro pins s σ H vs us Q I r h
  obtain ⟨p, ns, rfl, hS, hfit, q⟩ := h
  obtain ⟨u, rfl, ru⟩ := vals1 r
  cases ru
  obtain ⟨its, rv, pl, hz⟩ := I.list hS
  have hl : its.length = ns.length := by have := rv.length; rw [List.length_map] at this; omega
  refine call_sum_walk (wpAny_pyIter_list pl.isList ?_)
  obtain ⟨ol, el, cl, dl⟩ := id pl.isList
  have hplt := Heap.lt_size el
  have hpne : p ≠ s.heap.objs.size := Nat.ne_of_lt hplt
  have W := Walks.list (prog := X.prog) (w := X.w) (A := X.A.in1) (show X.A.in1.handled = none from I.ok.hd hc) s.heap.objs.size p hpne its.toArray
  refine ⟨s.heap.objs.size, [s.heap.objs.size, p], [s.heap.objs.size], its.toArray.size, _, _, fun i => ((ns.getD i 0 : Nat) : Int), rfl, W, ⟨⟨_, Heap.get?_push_size _ rfl, rfl, rfl⟩, ⟨ol, Heap.get?_push_of_some _ el, cl, dl⟩⟩, ?_, ?_, ?_, ?_⟩
  · intro b hb
    simp only [List.mem_cons, List.not_mem_nil, or_false] at hb
    rw [Heap.size_push]
    rcases hb with rfl | rfl
    · exact Nat.lt_succ_self _
    · exact Nat.lt_succ_of_lt hplt
  · intro i v hP
    exact nats_at rv (by simpa using hP)
  · intro j hj
    have hj : j < ns.length := by rw [List.size_toArray, hl] at hj; exact hj
    have h1 := take_le ns (j + 1)
    have h2 := take_le ns j
    have e : (ns.take (j + 1)).sum = (ns.take j).sum + ns[j] := by rw [List.take_succ_eq_append_getElem hj, List.sum_append]; simp
    have hg : ns.getD j 0 = ns[j] := by simp [List.getD_eq_getElem?_getD, List.getElem?_eq_getElem hj]
    rw [pre_nat ns (j + 1) (by omega)]
    show InLong ((ns.getD j 0 : Nat) : Int) ∧ _
    rw [hg]
    unfold InLong
    omega
  · intro h' tk t' hk
    have e : preSum (fun i => ((ns.getD i 0 : Nat) : Int)) its.toArray.size = ((ns.sum : Nat) : Int) := by
      rw [List.size_toArray, hl, pre_nat ns ns.length (Nat.le_refl _), List.take_length]
    rw [e]
    refine ⟨.int (ns.sum : Nat), H, I.kept (t' := tk) fun b o e => hk b o (fun z => ?_) (Heap.get?_push_of_some _ e), ⟨_, rfl⟩, q⟩
    have z' : b = s.heap.objs.size := by simpa using z
    subst z'
    exact absurd (Heap.lt_size e) (Nat.lt_irrefl _)
end
end L2
/-! OWN RULES over the hand layer: a call of a name of the frame; reversed, list(reversed(..)), zip -/
namespace L2
open PySem PySem.Spec PyProof.Rows

/-! ### some untracked records of ours have turned -/
theorem Inv.turnedL {X : Cx} {pins : List (Addr × Obj)} {σ : St} {H : Hp} {s : Shared} {h' : Heap} {t' : Nat} {ch : List Addr} (I : Inv X pins σ H s) (k : ∀ b o, b ∉ ch → s.heap.get? b = some o → h'.get? b = some o) (hf : ∀ b ∈ ch, FpOk X pins H b) :
    Inv X pins σ H { s with heap := h', toks := t' } := by
  have nit : ∀ b u, H b = some u → b ∉ ch := fun b u e z => by rw [(hf b z).1] at e; cases e
  refine I.step (g' := s.gens) (d' := s.drawn) (ch := ch) (fun b hb => ?_) (fun b o _ _ hc e _ => k b o hc e) (fun b o _ _ hc e _ => ⟨o.slots, k b o hc e⟩) (fun _ _ _ _ n => n)
    (fun b o hc e => ⟨o, k b o hc e⟩) (fun _ _ e => e) (fun _ _ _ e => e) (fun b ps e => ⟨#[], by rw [e]; simp⟩) (fun m hm => ?_) (fun b u e => ?_) I.bare
  · obtain ⟨_, f1, _, f3, f4, f5⟩ := hf b hb
    exact ⟨f3, f1, f4, f5⟩
  · obtain ⟨o, es, ep, ho, r⟩ := hm
    exact ⟨o, es, ep, k _ o (fun z => (hf _ z).2.1 rfl) ho, r⟩
  · refine (I.hok b u e).stay (fun c v hc q => k c v ?_ q) (fun _ q => q) fun _ _ q => q
    rcases hc with z | z
    · rw [z]; exact nit b u e
    · exact nit c _ z

/-! ### f(..), f a name of the frame that stands for a def -/
def tCallV (P : Program) (w : World) (K : PySem.W.Frag) (mg : Str → Option Value) (base : Heap) (A : Around) (CX : CXT) (E : XK) (tf : TE) (t : TA) : TE := fun σ H Q => tf σ H fun x H0 => ∃ (f : Addr) (fd : FuncData) (ps : List Str) (sp : Sp) (k : Nat),
  x = .ref f ∧ FnOk P w K mg base CX k f fd ps sp ∧ Room k A ∧ PySem.W.keepIn K (.ref f) = true ∧ Binds K fd ps [] ∧ t σ H0 fun vs H1 => sp vs H1 Q E
section
variable {X : Cx} {P : Program} {w : World} {K : PySem.W.Frag} {mg : Str → Option Value} {base : Heap} {A : Around} {CX : CXT} {E : XK} {x : Str} {p pos : Pos} {e : Expr} {es : List Expr} {tf : TE} {t : TA}
theorem pe_callV (hf : PE X (.Name x p) tf) (hx : Passes CX X E) (ha : PA X (e :: es) t) (hP : X.prog = P := by rfl) (hw : X.w = w := by rfl) (hK : X.K = K := by rfl) (hmg : X.mg = mg := by rfl) (hbs : X.base = base := by rfl) (hA : X.A = A := by rfl)
    (he : starEach (e :: es) X.env = (false, eval e X.env) :: starEach es X.env := by rfl) (hpl : (backTo pos (starEach es X.env)).any (·.1) = false := by rfl) :
    PE X (.Call (.Name x p) (e :: es) [] pos) (tCallV P w K mg base A CX E tf t) := by
  subst hP; subst hw; subst hK; subst hmg; subst hbs; subst hA
  intro pins s σ H Q I h
  refine wpAny_Call_Name_kw (thn (hf pins s σ H _ I h) fun fv s0 ⟨y, H0, I0, r0, q0⟩ => ?_)
  obtain ⟨f, fd, ps, sp, k, rfl, F, hr, hk, hb, q⟩ := q0
  cases r0
  refine PySem.W.callWith_K (h₀ := X.base) I0.ok.mod.kin hk (thn (ha pos pins s0 σ H0 _ I0 q) fun us s1 ⟨vs, H1, I1, r, q1⟩ => ⟨I1.kIn, ?_⟩) he hpl
  exact run_fn (dvs := []) F hr hb .nil hx I1 r (by rw [List.append_nil]; exact q1)
end

/-! ### for .. in reversed(xs) -/
theorem bt_reversed : bootBuiltins "reversed" = some (.type "reversed") := by decide +kernel
def Itv (K : PySem.W.Frag) (a : Addr) (n : Nat) : It :=
  ⟨fun i H => ∃ xs x, SqL K H a xs ∧ xs.reverse[i]? = some x ∧ xs.length = n, fun i H x H' => H' = H ∧ ∀ xs, SqL K H a xs → xs.reverse[i]? = some x, fun i _ => i = n⟩
theorem turn_rev {P : Program} {w : World} {K : PySem.W.Frag} {tg : Expr} (a it : Addr) (n : Nat) : Turn P w K tg (Itv K a n) [it] it (fun i h => h.IsRevIter it a ((n : Int) - 1 - (i : Int))) where
  mem := by simp
  obj := fun i h st b hb => by
    have e : b = it := by simpa using hb
    subst e
    obtain ⟨o, e, c, d⟩ := st
    exact ⟨o, e, fun v z => by rw [d] at z; cases z⟩
  keep := fun i h h' st k => st.at fun o e => k it (by simp) o e
  item := by
    intro X hP hw hK hc i pins s σ H E I hf st hg
    subst hP hw hK
    obtain ⟨xs, x, hq, hx, hn⟩ := hg
    obtain ⟨its, rv, p, hz⟩ := I.list hq
    have hlt : i < xs.length := by
      have := (List.getElem?_eq_some_iff.mp hx).1
      simpa using this
    rw [List.getElem?_reverse hlt] at hx
    obtain ⟨u, hu, ru⟩ := rv.get hx
    obtain ⟨f0, f1, f2, f3, f4, f5⟩ := hf it (by simp)
    have e1 : (n : Int) - 1 - (i : Int) = ((xs.length - 1 - i : Nat) : Int) := by omega
    have st1 := st
    rw [e1] at st1
    refine wpAny_pyNext_rev_item st1 p.isList (x := u) (by simpa using hu) fun h' st' sb => ?_
    have I1 : Inv X pins σ H { s with heap := h' } := I.turned (t' := s.toks) (fun b o hb e => (sb.2 b hb).trans e) f0 f1 f3 f4 f5
    have e2 : ((xs.length - 1 - i : Nat) : Int) - 1 = (n : Int) - 1 - ((i + 1 : Nat) : Int) := by omega
    rw [e2] at st'
    obtain ⟨o, e, c, d⟩ := id st'
    exact ⟨u, rfl, go_of (s := { s with heap := h' }) e c d (by decide) ⟨x, H, I1, ru, ⟨rfl, fun ys hy => by rw [I.list_inj hy hq, List.getElem?_reverse hlt]; exact hx⟩, st', fun b hb => (hf b hb).1⟩⟩
  done := by
    intro X hP hw hK hc i pins s σ H E I hf st hg
    subst hP hw hK
    obtain ⟨f0, f1, f2, f3, f4, f5⟩ := hf it (by simp)
    have hi : i = n := hg
    have e1 : (n : Int) - 1 - (i : Int) = -1 := by omega
    rw [e1] at st
    exact wpAny_pyNext_rev_end (I.ok.hd hc) st fun h' eb => ⟨rfl, I.turned (t' := s.toks) (fun b o hb e => eb b o hb e) f0 f1 f3 f4 f5⟩
  self := fun _ _ _ _ _ st h => wpAny_pyIter_revIter st h
section
variable {X : Cx} {tg : Expr} {K : PySem.W.Frag}
def iRev (K : PySem.W.Frag) (ta : TA) : TI := fun σ H R => ta σ H fun vs H1 => ∃ a xs, vs = [.ref a] ∧ SqL K H1 a xs ∧ R (Itv K a xs.length) H1
theorem pi_rev {a : Expr} {ta : TA} {p pos : Pos} (hg : Gl X "reversed") (hm : X.mg "reversed" = none) (ha : PA X [a] ta) (hK : X.K = K := by rfl) (hs : starEach [a] X.env = [(false, eval a X.env)] := by rfl) : PI X tg (.Call (.Name "reversed" p) [a] [] pos) (iRev K ta) := by
  subst hK
  intro pins s σ H R I h
  refine Call_ (ld_blt I hg hm bt_reversed (PyProof.Rows.callWith_type1 (thn (ha pos pins s σ H _ I h) fun us s1 ⟨vs, H1, I1, r1, q1⟩ => ?_) hs rfl))
  obtain ⟨l, xs, e, hq, q⟩ := q1
  subst e
  cases r1 with
  | cons r rr =>
    cases rr
    cases r
    obtain ⟨its, rv, pl, hz⟩ := I1.list hq
    have hl : its.toArray.size = xs.length := by rw [List.size_toArray]; exact rv.length.symm
    refine call_reversed_list pl.isList ?_
    have st : (s1.heap.push (revObj l ((its.toArray.size : Int) - 1))).IsRevIter s1.heap.objs.size l ((xs.length : Int) - 1 - ((0 : Nat) : Int)) := ⟨_, Heap.get?_push_size _ rfl, rfl, by rw [hl]; simp [revObj]⟩
    refine wpAny_pyIter_revIter st ?_
    refine ⟨s1.heap.objs.size, [s1.heap.objs.size], _, _, H1, rfl, I1.kept (t' := s1.toks) fun b o e => Heap.get?_push_of_some _ e, turn_rev l _ xs.length, st, fun b hb => ?_, q⟩
    have e : b = s1.heap.objs.size := by simpa using hb
    subst e
    exact I1.fpOk (Nat.le_refl _) (I1.hok.fresh (Nat.le_refl _))
end
theorem for_rev {K : PySem.W.Frag} {a : Addr} {xs : List V} {g : TG} {tb : TS} {D : Ends} {σ : St} {H : Hp} (Pv : Nat → St → Hp → Prop) (h0 : Pv 0 σ H) (hl : ∀ i σ H, i ≤ xs.length → Pv i σ H → SqL K H a xs)
    (hs : ∀ i x σ H, xs.reverse[i]? = some x → Pv i σ H → g x σ H fun σ2 H2 => tb { D with nx := Pv (i + 1), ct := Pv (i + 1), bk := D.nx } σ2 H2) (hd : ∀ σ H, Pv xs.length σ H → D.nx σ H) :
    ∃ W : Nat → Nat → St → Hp → Prop, (∃ m, W 0 m σ H) ∧ ∀ i m σ H, W i m σ H →
      ((Itv K a xs.length).stop i H ∧ D.nx σ H) ∨ ((Itv K a xs.length).go i H ∧ ∃ N : St → Hp → Prop, (∀ σ' H', N σ' H' → ∃ m', m' < m ∧ W (i + 1) m' σ' H') ∧ ∀ x H', (Itv K a xs.length).yld i H x H' → g x σ H' fun σ2 H2 => tb { D with nx := N, ct := N, bk := D.nx } σ2 H2) := by
  refine ⟨fun i m σ H => m = xs.length - i ∧ i ≤ xs.length ∧ Pv i σ H, ⟨xs.length, by simp, Nat.zero_le _, h0⟩, ?_⟩
  rintro i m σ H ⟨rfl, hi, p⟩
  have q := hl i σ H hi p
  by_cases hlt : i < xs.length
  · have hlt' : i < xs.reverse.length := by rw [List.length_reverse]; exact hlt
    refine .inr ⟨⟨xs, xs.reverse[i], q, List.getElem?_eq_getElem hlt', rfl⟩, Pv (i + 1), fun σ' H' p' => ⟨xs.length - (i + 1), by omega, rfl, hlt, p'⟩, fun x H' y => ?_⟩
    obtain ⟨e, y⟩ := y
    subst e
    exact hs i x σ _ (y xs q) p
  · have e : i = xs.length := by omega
    subst e
    exact .inl ⟨rfl, hd σ H p⟩
end L2

/-! ### list(reversed(xs)) -/
namespace PySem
namespace F
theorem nolen_lri : typeLookup (.type "list_reverseiterator") "__len__" = pure none := by rw [typeLookup_type, builtinLookup_eq_fast]; kernel_rfl
theorem hint_lri : typeLookup (.type "list_reverseiterator") "__length_hint__" = pure (some (.builtin "list_reverseiterator.__length_hint__")) := by rw [typeLookup_type, builtinLookup_eq_fast]; kernel_rfl
end F
section
variable {prog : Program} {w : World} {A : Around} {E : Value → Shared → Prop} {s : Shared}
abbrev RevItems (items : Array Value) : Nat → Value → Prop := fun i v => items[items.size - 1 - i]? = some v
theorem wpAny_extend_rev {R : Result → Shared → Prop} (hh : A.handled = none) {I l : Addr} {items : Array Value} (hit : s.heap.IsRevIter I l ((items.size : Int) - 1)) (hl : s.heap.IsList l items) (hne : l ≠ I) (S : Addr) (res : Value) (c₀ : Nat)
    (hS : s.heap.get? S = some { cls := .type "list", data := .seq #[] c₀ }) (hSI : S ≠ I) (hSl : S ≠ l)
    (hR : ∀ h' tk acc' c', (∀ b o, b ≠ S → b ≠ I → s.heap.get? b = some o → h'.get? b = some o) → h'.get? S = some { cls := .type "list", dict := none, data := .seq acc' c', slots := #[] } →
      ItemsOf (RevItems items) acc' items.size → R (.ok (.ret res)) { s with heap := h', toks := tk }) (hn : items.size ≤ sizeLine) :
    wpAny (model prog w) A.in1 (Builtin.List.listExtendWith (.ref S) (.ref I) res)
      (fun fin s' => match fin with | .done f => R (.ok f) s' | .again c' => c'.quiet = true ∧ codeAny (model prog w) A c' R s') (fun e s' => R (.error e) s') s := by
  have hSf : S ∉ [I, l] := fun hm => by
    rcases List.mem_cons.mp hm with e | hm
    · exact hSI e
    · exact hSl (List.mem_singleton.mp hm)
  have W := (Walks.listRev (prog := prog) (w := w) (A := A.in1) hh I l hne items).toS
  have hit0 : s.heap.IsRevIter I l ((items.size : Int) - 1 - ((0 : Nat) : Int)) := by
    have e : (items.size : Int) - 1 - ((0 : Nat) : Int) = (items.size : Int) - 1 := by omega
    rw [e]; exact hit
  unfold Builtin.List.listExtendWith
  refine wpAny_bind (wpAny_typeOf (T := "list_reverseiterator") hit.typeIs ?_)
  have h1 : Builtin.List.listSameRef (.ref S) (.ref I) = false := by simp [Builtin.List.listSameRef, hSI]
  have h2 : (Value.type "list_reverseiterator" == Value.type "list") = false := by decide
  have h3 : (Value.type "list_reverseiterator" == Value.type "tuple") = false := by decide
  simp only [h1, h2, h3, Bool.or_false, Bool.false_eq_true, if_false]
  refine wpAny_bind (wpAny_pyIter_revIter hit ?_)
  refine wpAny_bind (wpAny_holding ?_)
  unfold Builtin.List.listLengthHint
  refine wpAny_bind (wpAny_specialOf hit.typeIs F.nolen_lri ?_)
  show wpAny _ A.in1 (specialOf (Value.ref I) (Str.ofString "__length_hint__") >>= _) _ _ _
  refine wpAny_bind (wpAny_specialOf hit.typeIs F.hint_lri ?_)
  generalize hid : ("list_reverseiterator.__length_hint__" : String) = id0
  wp_delta
  rw [show splitId id0 = some ("list_reverseiterator", "__length_hint__") from by subst hid; decide +kernel]
  subst hid
  refine wpAny_bind (wpAny_isInstance (b := true) hit.typeIs (by rw [isSubtype_type]; kernel_rfl) ?_)
  refine wpAny_pure ?_
  rw [if_neg (by decide)]
  refine wpAny_pure ⟨plainId_quiet F.plain_extend_loop _, codeAny_extend_loopS W hn _ hSf _ items.size 0 _ _ _ rfl (Nat.zero_le _) ⟨Nat.zero_le _, hit0, hl⟩ hS (ItemsOf.nil _) fun s' acc' c' hm hS' hacc => ?_⟩
  rw [Moved.eq_with hm]
  refine hR s'.heap s'.toks acc' c' (fun b ob hb hb2 e => hm.heap b ob (fun hmem => ?_) e) hS' hacc
  rcases List.mem_cons.mp hmem with e' | hmem
  · exact hb e'
  · exact hb2 (List.mem_singleton.mp hmem)
theorem wpAny_list_init_rev {R : Result → Shared → Prop} (hh : A.handled = none) {I l : Addr} {items : Array Value} (hit : s.heap.IsRevIter I l ((items.size : Int) - 1)) (hl : s.heap.IsList l items) (hne : l ≠ I) (S : Addr) (hSI : S ≠ I) (hSl : S ≠ l)
    (hS : s.heap.get? S = some { cls := .type "list", data := .seq #[] })
    (hR : ∀ h' tk acc' c', (∀ b o, b ≠ S → b ≠ I → s.heap.get? b = some o → h'.get? b = some o) → h'.get? S = some { cls := .type "list", dict := none, data := .seq acc' c', slots := #[] } →
      ItemsOf (RevItems items) acc' items.size → R (.ok (.ret .none)) { s with heap := h', toks := tk }) (hn : items.size ≤ sizeLine) :
    wpAny (model prog w) A.in1 (Builtin.«list.__init__» ⟨[.ref S, .ref I], []⟩)
      (fun fin s' => match fin with | .done f => R (.ok f) s' | .again c' => c'.quiet = true ∧ codeAny (model prog w) A c' R s') (fun e s' => R (.error e) s') s := by
  show wpAny _ _ (do let old ← Builtin.List.listItems (.ref S); Builtin.List.listUpdate (.ref S) (fun _ => #[]); letGo old.toList.reverse; Builtin.List.listExtendWith (.ref S) (.ref I) .none) _ _ s
  refine wpAny_bind ?_
  unfold Builtin.List.listItems
  refine wpAny_bind (wpAny_seqItems hS rfl (wpAny_pure ?_))
  show wpAny _ _ (updateSeq S (fun _ => #[]) >>= fun _ => letGo (#[] : Array Value).toList.reverse >>= fun _ => Builtin.List.listExtendWith (.ref S) (.ref I) .none) _ _ s
  refine wpAny_bind (wpAny_updateSeq hS rfl ?_)
  have hS₂ := Heap.get?_update_self (Obj.mapSeq (fun _ => (#[] : Array Value))) hS rfl
  have oth : ∀ b o, b ≠ S → s.heap.get? b = some o → (s.heap.update S (Obj.mapSeq (fun _ => (#[] : Array Value)))).get? b = some o :=
    fun b o hb e => (Heap.get?_update_other _ _ (Ne.symm hb)).trans e
  refine wpAny_bind (wpAny_letGo ?_)
  refine wpAny_extend_rev hh (hit.at fun o e => oth I o (Ne.symm hSI) e) (hl.at fun o e => oth l o (Ne.symm hSl) e) hne S .none _ hS₂ hSI hSl (fun h' tk acc' c' hk hS' hacc => ?_) hn
  exact hR h' tk acc' c' (fun b o hb hb2 e => hk b o hb hb2 (oth b o hb e)) hS' hacc
theorem call_list_rev {Q : Value → Shared → Prop} (hh : A.handled = none) {I l : Addr} {items : Array Value} (hit : s.heap.IsRevIter I l ((items.size : Int) - 1)) (hl : s.heap.IsList l items) (hne : l ≠ I)
    (hQ : ∀ h' tk acc' c', (∀ b o, b ≠ I → s.heap.get? b = some o → h'.get? b = some o) →
      h'.get? s.heap.objs.size = some { cls := .type "list", dict := none, data := .seq acc' c', slots := #[] } → ItemsOf (RevItems items) acc' items.size → Q (.ref s.heap.objs.size) { s with heap := h', toks := tk }) (hn : items.size ≤ sizeLine) :
    wpAny (model prog w) A (call (.type "list") [.ref I]) Q E s := by
  have ltI : I < s.heap.objs.size := let ⟨o, e, _⟩ := hit; Heap.lt_size e
  have ltl : l < s.heap.objs.size := let ⟨o, e, _⟩ := hl; Heap.lt_size e
  refine callType_codes (Q₁ := fun obj s₁ => obj = .ref s.heap.objs.size ∧ s₁ = { s with heap := s.heap.push { cls := .type "list", data := .seq #[] } }) F.called_list (F.typeCall_list_1 _) F.entry_list_init
    (code_list_new _ ⟨rfl, rfl⟩) fun obj s₁ h₁ => ?_
  obtain ⟨rfl, rfl⟩ := h₁
  have hS : (s.heap.push { cls := .type "list", data := .seq #[] }).get? s.heap.objs.size = some { cls := .type "list", data := .seq #[] } := Heap.get?_push_size _ rfl
  refine ⟨⟨_, hS, rfl⟩, F.args_list_init_2 _ _, wpAny_list_init_rev (A := A.in1) hh (hit.at fun o e => Heap.get?_push_of_some _ e) (hl.at fun o e => Heap.get?_push_of_some _ e) hne _ (Nat.ne_of_gt ltI) (Nat.ne_of_gt ltl) hS (fun h' tk acc' c' hk hS' hacc => ?_) hn⟩
  exact ⟨rfl, hQ h' tk acc' c' (fun b o hb e => hk b o (Nat.ne_of_lt (Heap.lt_size e)) hb (Heap.get?_push_of_some _ e)) hS' hacc⟩
theorem rev_items {its : List Value} {acc : Array Value} (h : ItemsOf (RevItems its.toArray) acc its.toArray.size) : acc = its.reverse.toArray := by
  obtain ⟨h1, h2⟩ := h
  refine Array.ext (by simpa using h1) fun i hi hi2 => ?_
  have e := h2 i acc[i] (Array.getElem?_eq_getElem hi)
  have e' : its[its.length - 1 - i]? = some acc[i] := by simpa [RevItems] using e
  have hlt : i < its.length := by simpa using hi2
  have e2 : its.reverse[i]? = some acc[i] := by rw [List.getElem?_reverse hlt]; exact e'
  have e3 : its.reverse.toArray[i]? = some acc[i] := by simpa using e2
  rw [Array.getElem?_eq_getElem hi2] at e3
  exact (Option.some.inj e3).symm
end
end PySem
namespace L2
open PySem PySem.Spec PyProof.Rows
theorem Vals.rev {vs : List V} {us : List Value} (h : Vals vs us) : Vals vs.reverse us.reverse := by
  induction h with
  | nil => exact .nil
  | cons r _ ih => rw [List.reverse_cons, List.reverse_cons]; exact ih.append (.cons r .nil)
section
variable {X : Cx} {K : PySem.W.Frag}
def tListRev (K : PySem.W.Frag) (ta : TA) : TE := fun σ H Q => ta σ H fun vs H1 => ∃ a xs, vs = [.ref a] ∧ SqL K H1 a xs ∧ ∀ r, H1 r = none → Q (.ref r) (upd H1 r (.lst xs.reverse))
theorem pe_listRev {a : Expr} {ta : TA} {p p' pos pos' : Pos} (hg : Gl X "reversed") (hm : X.mg "reversed" = none) (hg' : Gl X "list") (hm' : X.mg "list" = none) (hc : X.calm = true) (ha : PA X [a] ta) (hK : X.K = K := by rfl) (hs : starEach [a] X.env = [(false, eval a X.env)] := by rfl)
    (hs' : starEach [.Call (.Name "reversed" p) [a] [] pos] X.env = [(false, eval (.Call (.Name "reversed" p) [a] [] pos) X.env)] := by rfl) :
    PE X (.Call (.Name "list" p') [.Call (.Name "reversed" p) [a] [] pos] [] pos') (tListRev K ta) := by
  subst hK
  intro pins s σ H Q I h
  refine wpAny_Call_Name_kw (ld_blt I hg' hm' bt_list ?_)
  refine PyProof.Rows.callWith_type1 ?_ hs' rfl
  rw [hs']
  refine Calls.spliced_cons (Call_ (ld_blt I hg hm bt_reversed (PyProof.Rows.callWith_type1 (thn (ha pos pins s σ H _ I h) fun us s1 ⟨vs, H1, I1, r1, q1⟩ => ?_) hs rfl)))
  obtain ⟨l, xs, e, hq, q⟩ := q1
  subst e
  cases r1 with
  | cons r rr =>
    cases rr
    cases r
    obtain ⟨its, rv, pl, hz⟩ := I1.list hq
    refine call_reversed_list pl.isList ?_
    refine Calls.spliced_nil ?_
    have st : (s1.heap.push (revObj l ((its.toArray.size : Int) - 1))).IsRevIter s1.heap.objs.size l ((its.toArray.size : Int) - 1) := ⟨_, Heap.get?_push_size _ rfl, rfl, rfl⟩
    have ltl : l < s1.heap.objs.size := let ⟨o, e, _⟩ := pl.isList; Heap.lt_size e
    have hlen := rv.length
    refine call_list_rev (I1.ok.hd hc) st (pl.isList.at fun o e => Heap.get?_push_of_some _ e) (Nat.ne_of_lt ltl) (fun h' tk acc c hk hS hacc => ?_) (by rw [List.size_toArray, ← hlen]; exact hz)
    rw [rev_items hacc] at hS
    have ns : (s1.heap.push (revObj l ((its.toArray.size : Int) - 1))).objs.size = s1.heap.objs.size + 1 := Heap.size_push ..
    rw [ns] at hS ⊢
    have kp : ∀ b o, s1.heap.get? b = some o → h'.get? b = some o := fun b o e => hk b o (Nat.ne_of_lt (Heap.lt_size e)) (Heap.get?_push_of_some _ e)
    exact ⟨.ref (s1.heap.objs.size + 1), _, I1.laid (t' := tk) kp (Nat.le_succ _) (show ObjOk X.prog X.w _ h' _ (.lst xs.reverse) from ⟨by rw [List.length_reverse]; exact hz, its.reverse, c, rv.rev, hS⟩), rfl, q _ (I1.hok.fresh (Nat.le_succ _))⟩
end
end L2
/-! OWN RULES: wide numbers (products, quotients), tuples compared, the script's numbers are not too wide -/
namespace L2
open PySem PySem.Spec PyProof.Rows
section
variable {X : Cx} {K : PySem.W.Frag}
theorem op_mulW : OpR X (binaryOp .Mult) (rI IntMulOk fun i j => .int (i * j)) := opI fun _ _ _ _ _ _ _ hc q => mul_int q hc
theorem op_fdivW : OpR X (binaryOp .FloorDiv) (rI (fun _ j => j ≠ 0 ∧ j.natAbs.log2 < 9000) fun i j => .int (i.fdiv j)) := opI fun _ _ _ _ _ _ _ hc q => floordiv_int hc.1 q (.inl (PyProof.noPylong_of_log2 hc.2))
def rEqT (K : PySem.W.Frag) (k : Bool) : R2 := fun x y H Q => ∃ a b xs, x = .ref a ∧ y = .ref b ∧ SqT K H a xs ∧ SqT K H b xs ∧ xs.all plainV = true ∧ Q (.bl k) H
theorem op_eqT (hu : X.A.units < cLine) : OpR X (compareOp .Eq) (rEqT X.K true) := by
  intro pins s σ H x y v u Q I rx ry h
  obtain ⟨a, b, xs, rfl, rfl, ha, hb, hp, q⟩ := h
  cases rx; cases ry
  obtain ⟨its, r, pl, _⟩ := I.tuple ha
  obtain ⟨its2, r2, pl2, _⟩ := I.tuple hb
  have hl : its.length = its2.length := by rw [← r.length, ← r2.length]
  refine SeqAt.eq_tupleAt (e := fun _ => true) pl pl2 hu (fun j h1 h2 => vals_same r r2 hp j h1 h2) ⟨.bl true, H, I, ?_, q⟩
  have : ((List.range (min its.toArray.size its2.toArray.size)).all (fun _ => true) && its.toArray.size == its2.toArray.size) = true := by simp [hl]
  rw [this]; rfl
theorem op_neT (hu : X.A.units < cLine) : OpR X (compareOp .NotEq) (rEqT X.K false) := by
  intro pins s σ H x y v u Q I rx ry h
  obtain ⟨a, b, xs, rfl, rfl, ha, hb, hp, q⟩ := h
  cases rx; cases ry
  obtain ⟨its, r, pl, _⟩ := I.tuple ha
  obtain ⟨its2, r2, pl2, _⟩ := I.tuple hb
  have hl : its.length = its2.length := by rw [← r.length, ← r2.length]
  refine SeqAt.RcNeAt.tuples (e := fun _ => true) pl pl2 hu (fun j h1 h2 => vals_same r r2 hp j h1 h2) X.prog X.w X.xe _ ⟨.bl false, H, I, ?_, q⟩
  have : ((List.range (min its.toArray.size its2.toArray.size)).all (fun _ => true) && its.toArray.size == its2.toArray.size) = true := by simp [hl]
  rw [this]; rfl
theorem kEqT (hu : X.A.units < cLine) (hK : X.K = K := by rfl) : OpR X (compareOp .Eq) (rEqT K true) := by subst hK; exact op_eqT hu
theorem kNeT (hu : X.A.units < cLine) (hK : X.K = K := by rfl) : OpR X (compareOp .NotEq) (rEqT K false) := by subst hK; exact op_neT hu
end
end L2
namespace Att
open PySem PySem.W PySem.Calls PyProof.Rows
theorem ints_bits {ns : List Int} (h : WData.layableAll [WData.list (ns.map WData.int)] = true) : ∀ n ∈ ns, Builtin.Int.intBits n ≤ 2 ^ 20 := fun n hn =>
  PyData.bits_of_layable (layable0_of_all (lay0_int (layableW_item (layW_cons h).1 (.int n) (List.mem_map.mpr ⟨n, hn, rfl⟩))))
theorem attach_callB {l : OpenLaw} {n : Nat} {q : Program} {loose : List Str} {XP : (Str → Option Value) → Heap → Prop} {YP : World → Heap → Prop} {d : DefRec}
    (hn : l.most = some n) (hdf : d.params.defaults = [])
    (call : ∀ (w : World) (s₀ s₁ : Shared) (mg mb : Str → Option Value) (fa : Addr) (o : Obj) (pm cd doc : Value) (a : Addr) (vs : List Value) (ns : List Int),
      Ground q loose [] XP w s₀ mg mb s₁.heap → YP w s₁.heap →
      s₁.heap.get? fa = some o → o.data = .func (docDef d.name d.params d.body d.scope pm cd doc) → s₁.heap.CodeRec cd d.name → mg d.name = some (.ref fa) →
      s₁.heap.get? a = some { cls := .type "list", data := .seq vs.toArray } → IntsAre vs ns → ns.length ≤ n → (∀ m ∈ ns, Builtin.Int.intBits m ≤ 2 ^ 20) → s₁.gens = #[] →
      codeAny (model l.prog w) callerA (.call (.ref fa) ⟨[.ref a], []⟩) (fun r s' => r = .ok (.ret (.bool true)) ∧ OldK s₁.heap s'.heap ∧ s'.os = s₁.os ∧ AllBare s'.gens) s₁) :
    WalkO q loose XP YP l.row.toRowW d [] (fun f vs => PySem.call f vs) := by
  intro w s₀ s₁ mg mb G Y fa o pm cd doc dV kV ho hd hcd hD hmg hg args vals as hpre hlay hrd hwl hlo
  obtain rfl : dV = .none := Dflts.none hD hdf
  obtain rfl : kV = .none := Dflts.noKw hD
  obtain ⟨a, vs, ns, rfl, rfl, hobj, hints, hlen⟩ := script_of hn hpre hwl
  refine enter_call (codeAny_mono (call w s₀ s₁ mg mb fa o pm cd doc a vs ns G Y ho (fd_plain hd) hcd hmg hobj hints hlen (ints_bits hlay) hg) fun r s' hq => ?_)
  obtain ⟨rfl, h2, h3, h4⟩ := hq
  exact ⟨.inl ⟨.bool true, .bool true, [], rfl, fun _ => rfl, .bool true, post_true l _, fun _ => ⟨List.Pairwise.nil, fun _ hm => (nomatch hm)⟩⟩, h2, h3, h4⟩
end Att
namespace L2
open PySem PySem.Spec PyProof.Rows
theorem walk_ofB {l : PySem.W.OpenLaw} {n k : Nat} {q : Program} {loose : List Str} {XP : (Str → Option Value) → Heap → Prop} {YP : World → Heap → Prop} {d : DefRec} {K : Params → PySem.W.Frag} {CX : World → CXT} {sp : World → Sp} {x : Str}
    (hn : l.most = some n) (hn2 : n ≤ sizeLine) (hdf : d.params.defaults = []) (hr : Room k callerA)
    (hY : ∀ (w : World) (h : Heap), YP w h → (K w.params).In h)
    (F : ∀ (w : World) (mg : Str → Option Value) (fa : Addr) (h : Heap), (K w.params).In h → h.Ns mainGlobals mg → mg d.name = some (.ref fa) →
      ∃ fd : FuncData, (∀ (s : Shared) (u : Value), BindsTo s fd ⟨[u], []⟩ [(x, u)]) ∧
        ∀ base : Heap, (K w.params).In base → base.Ns mainGlobals mg → FnOk l.prog w (K w.params) mg base (CX w) k fa fd [x] (sp w))
    (hsp : ∀ (w : World) (H : Hp) (a : Addr) (ns : List Int), ns.length ≤ n → (∀ m ∈ ns, Builtin.Int.intBits m ≤ 2 ^ 20) → Only H → SqL (K w.params) H a (ns.map V.int) → sp w [.ref a] H (fun v _ => v = .bl true) fun _ _ _ => False)
    (hCX : ∀ (w : World) (H : Hp) (s : Shared) (e : Value) (s' : Shared), CX w [] H s (fun _ _ _ => False) e s' → False) :
    PySem.W.WalkO q loose XP YP l.row.toRowW d [] (fun f vs => PySem.call f vs) := by
  refine Att.attach_callB hn hdf fun w s₀ s₁ mg mb fa o pm cd doc a vs ns G Y ho hd hcd hmg hobj hints hlen hbits hg => ?_
  have KX := hY w _ Y
  obtain ⟨fd, hb, hF⟩ := F w mg fa _ KX G.T.g hmg
  exact law_call KX G.T.g G.T.b G.T.builtins G.T.nolimit hg hobj hints (Nat.le_trans hlen hn2) hr hF hb (fun H hO hS => hsp w H a ns hlen hbits hO hS) fun H e s' => hCX w H s₁ e s'
end L2
/-! OWN RULES: == of lists of unlike lengths, an empty tuple put ahead, index of a text, pop(0) -/
namespace L2
open PySem PySem.Spec PyProof.Rows
section
variable {X : Cx} {K : PySem.W.Frag}
def rEqLen (K : PySem.W.Frag) : R2 := fun x y H Q => ∃ a b xs ys, x = .ref a ∧ y = .ref b ∧ SqL K H a xs ∧ SqL K H b ys ∧ xs.length ≠ ys.length ∧ Q (.bl false) H
theorem op_eqLen (hu : X.A.units < cLine) : OpR X (compareOp .Eq) (rEqLen X.K) := by
  intro pins s σ H x y v u Q I rx ry h
  obtain ⟨a, b, xs, ys, rfl, rfl, ha, hb, hp, q⟩ := h
  cases rx; cases ry
  obtain ⟨its, r, pl, _⟩ := I.list ha
  obtain ⟨its2, r2, pl2, _⟩ := I.list hb
  have hl : its.length ≠ its2.length := by rw [← r.length, ← r2.length]; exact hp
  exact SeqAt.eq_list_lengthsAt pl.isList pl2.isList (by simpa using hl) hu ⟨.bl false, H, I, rfl, q⟩
theorem kEqL (hu : X.A.units < cLine) (hK : X.K = K := by rfl) : OpR X (compareOp .Eq) (fun x y H Q => rEqL K true x y H Q ∨ rEqLen K x y H Q) := by
  subst hK; exact (op_eqL hu).or (op_eqLen hu)
def rIndex : V → List V → Hp → VK → Prop := fun x vs H Q => ∃ (z y : Str) (i : Nat) (rest : List Nat), x = .str z ∧ vs = [.str y] ∧ Builtin.Str.occurrences z y 0 z.length 1 = i :: rest ∧ Q (.int (i : Nat)) H
theorem mt_index : MtR X "str.index" rIndex := by
  intro pins s σ H x vs v us Q I rx rv h
  obtain ⟨z, y, i, rest, rfl, rfl, ho, q⟩ := h
  obtain ⟨t, rfl⟩ := rx
  obtain ⟨u, rfl, t2, rfl⟩ := vals1 rv
  exact SC.index ho ⟨.int (i : Nat), H, I.tok _, ⟨_, rfl⟩, q⟩
def rCatT0 (K : PySem.W.Frag) : R2 := fun x y H Q => ∃ a b ys, x = .ref a ∧ y = .ref b ∧ SqT K H a [] ∧ SqT K H b ys ∧ Q (.ref b) H
theorem op_catT0 : OpR X (binaryOp .Add) (rCatT0 X.K) := by
  intro pins s σ H x y v u Q I rx ry h
  obtain ⟨a, b, ys, rfl, rfl, ha, hb, q⟩ := h
  cases rx
  cases ry
  obtain ⟨its, r1, p1, _⟩ := I.tuple ha
  obtain ⟨its2, r2, p2, hz⟩ := I.tuple hb
  have e0 : its = [] := r1.nil_iff.mpr rfl
  subst e0
  obtain ⟨⟨cls, dd, data, sl⟩, ho, hc, n, hd⟩ := id p1
  obtain ⟨⟨cls2, dd2, data2, sl2⟩, ho2, hc2, n2, hd2⟩ := id p2
  simp only at hc hd hc2 hd2
  subst hc hd hc2 hd2
  exact concat_meets ⟨_, ho, rfl⟩ ⟨_, ho2, rfl⟩ noFill_tuple_add seq_tuple_add PySem.F.slot_tuple_add PySem.F.entry_tuple_add (PySem.F.args_tuple_add_2 _ _)
    (tuple_addW0 a b _ _ n n2 dd dd2 sl sl2 (by simp)) ⟨ho, ho2, ⟨.ref b, H, I, rfl, q⟩⟩
theorem kAddT (hK : X.K = K := by rfl) : OpR X (binaryOp .Add) (fun x y H Q => rI0 (fun i j => .int (i + j)) x y H Q ∨ rCatT K x y H Q ∨ rCatT0 K x y H Q) := by
  subst hK; exact op_add.or (op_catT.or op_catT0)
end
end L2
/-! OWN RULES: enumerate(xs, start=n) of a list, walked with a pair of names -/
namespace PySem
open AutoSeq1 (wpAny_loadPart')
theorem enumNewAt (l : Addr) (items : Array Value) (n : Nat) (dc : Option Addr) (sl : Array (Option Value)) (k : Int) (t : Tok) (hk : Builtin.SmallTypes.fitsIndex k = true) :
    Meets (Builtin.«enumerate.__new__» ⟨[.type "enumerate", .ref l], [("start", .int k t)]⟩) (fun _ R s => s.heap.get? l = some { cls := .type "list", dict := dc, data := .seq items n, slots := sl } ∧
      R (.ok (.ret (.ref (s.heap.objs.size + 1)))) { s with heap := (s.heap.push { cls := .type "list_iterator", data := .fields #[.ref l, .int 0 0] }).push { cls := .type "enumerate", data := .fields #[.none, .bool false, .ref s.heap.objs.size, rawInt k, .none, .none] } }) := by
  refine .of_wp fun prog w A R s h => ?_
  obtain ⟨hp, g, d, tk, os⟩ := s
  obtain ⟨hl, h⟩ := h
  have hsub := sub_enumerate
  have hz : (hp.push { cls := .type "list_iterator", data := .fields #[.ref l, .int 0 0] }).objs.size = hp.objs.size + 1 := Heap.size_push ..
  have hL : Heap.IsList (Shared.heap ⟨hp, g, d, tk, os⟩) l items := ⟨_, hl, rfl, n, rfl⟩
  wp_walk using wpAny_loadPart' hl
  refine wpAny_stack_any fun st => wpAny_pure ?_
  have h2 : R (.ok (.ret (.ref (hp.objs.size + 1)))) ⟨(hp.push { cls := .type "list_iterator", data := .fields #[.ref l, .int 0 0] }).push { cls := .type "enumerate", data := .fields #[.none, .bool false, .ref hp.objs.size, rawInt k, .none, .none] }, g, d, tk, os⟩ := h
  rw [← hz] at h2
  split
  · rename_i c _ _ _ _ _
    cases (c == Value.type "enumerate")
    all_goals
      wp_walk using wpAny_loadPart' hl, wpAny_pyIter_list hL
      exact ⟨_, rfl, h2⟩
  · wp_walk using wpAny_loadPart' hl, wpAny_pyIter_list hL
    exact ⟨_, rfl, h2⟩
section
variable {prog : Program} {w : World} {A : Around} {E : Value → Shared → Prop} {s : Shared}
theorem enumInitOk (o a v : Value) : argsOk "object.__init__" ⟨[o, a], [("start", v)]⟩ := by
  unfold argsOk
  rw [signature?_of (id := "object.__init__") (n := ['_', '_', 't', 'i', 'n', 'i', '_', '_']) (o := ['t', 'c', 'e', 'j', 'b', 'o']) (by kernel_rfl) F.owner_object]
  kernel_rfl
theorem enumInit (o a v : Value) : Meets (Builtin.«object.__init__» ⟨[o, a], [("start", v)]⟩) (fun _ R s => s.TypeIs o "enumerate" ∧ R (.ok (.ret .none)) s) := by
  refine .of_wp fun prog w A R s hs => ?_
  obtain ⟨hT, hq⟩ := hs
  have hm := F.called_enumerate.made
  have hl := F.slot_enumerate_init.lookup
  repeat (any_goals (first | assumption | wp_step))
  exact ⟨_, rfl, hq⟩
theorem enum_called {l : Addr} {items : Array Value} {k : Int} {t : Tok} {Q : Value → Shared → Prop} (hL : s.heap.IsList l items) (hk : Builtin.SmallTypes.fitsIndex k = true)
    (h : ∀ h', IsEnum h' (s.heap.objs.size + 1) s.heap.objs.size k .none → h'.IsListIter s.heap.objs.size l 0 → (∀ b o, s.heap.get? b = some o → h'.get? b = some o) → Q (.ref (s.heap.objs.size + 1)) { s with heap := h' }) :
    wpAny (model prog w) A (call (.type "enumerate") [.ref l] [("start", .int k t)]) Q E s := by
  obtain ⟨⟨c, dc, dt, sl⟩, hl, hc, n, hd⟩ := hL
  replace hc : c = .type "list" := hc
  replace hd : dt = .seq items n := hd
  subst hc hd
  obtain ⟨c, tl, hmro⟩ := F.called_enumerate.mro
  have hmade := F.called_enumerate.made
  have hsub := F.called_enumerate.sub
  have hcn : checkBuiltinCall "enumerate.__new__" ⟨[.type "enumerate", .ref l], [("start", .int k t)]⟩ = pure () := by kernel_rfl
  have hct : checkTypeCall "enumerate" ⟨[.ref l], [("start", .int k t)]⟩ = pure () := by kernel_rfl
  have h1 := F.called_enumerate.notType
  have h2 := F.called_enumerate.canCreate
  refine wpAny_call (codeAny_of_tree ?_)
  show wpAny _ _ (callAny (.type "enumerate") _) _ _ _
  refine wpAny_pure ⟨Code.quiet_builtin _ (by decide +kernel), codeAny_builtin F.entry_type_call ?_⟩
  rw [Around.under_plain (weight_type_call_type "enumerate" _ _) (units_type_call_type "enumerate" _ _)]
  repeat (any_goals (first | assumption | wp_step))
  have hz : (s.heap.push { cls := .type "list_iterator", data := .fields #[.ref l, .int 0 0] }).objs.size = s.heap.objs.size + 1 := Heap.size_push ..
  have he : IsEnum ((s.heap.push { cls := .type "list_iterator", data := .fields #[.ref l, .int 0 0] }).push { cls := .type "enumerate", data := .fields #[.none, .bool false, .ref s.heap.objs.size, rawInt k, .none, .none] })
      (s.heap.objs.size + 1) s.heap.objs.size k .none := by rw [← hz]; exact Heap.get?_push_size _ rfl
  refine codeAny_mono (codeAny_call_builtin F.called_enumerate.plain F.entry_enumerate_new (wpAny_of_eq hcn (enumNewAt l items n dc sl k t hk prog w A.in1
    (wants (fun obj s₁ => obj = .ref (s.heap.objs.size + 1) ∧ s₁.TypeIs obj "enumerate" ∧ Q obj s₁) E) s ⟨hl, rfl, ⟨_, he, rfl⟩, h _ he ⟨_, Heap.get?_push_of_some _ (Heap.get?_push_size _ rfl), rfl, rfl⟩ fun b o x => Heap.get?_push_of_some _ (Heap.get?_push_of_some _ x)⟩))) fun r s₁ hr => ?_
  rcases r with e | fl
  · exact hr
  cases fl
  case ret obj =>
    obtain ⟨_, hT, hq⟩ := hr
    have hli := F.slot_enumerate_init.lookup
    have hbi := F.slot_enumerate_init.bind obj
    repeat (any_goals (first | assumption | wp_step))
    refine codeAny_mono (codeAny_call_builtin F.slot_enumerate_init.plain F.entry_object_init (F.slot_enumerate_init.check _ _ _ _ _ _ _ _ hT (enumInitOk _ _ _)
      (enumInit obj (.ref l) (.int k t) prog w A.in1 (wants (fun r s₂ => r = .none ∧ Q obj s₂) E) s₁ ⟨hT, rfl, hq⟩))) fun r₂ s₂ hr₂ => ?_
    rcases r₂ with e | fl₂
    · exact hr₂
    cases fl₂
    case ret r =>
      obtain ⟨rfl, hq⟩ := hr₂
      repeat (any_goals (first | assumption | wp_step))
    all_goals exact hr₂.elim
  all_goals exact hr.elim
end
end PySem
/-! OWN RULES: the turns of enumerate(xs, start=n) -/
namespace PySem
section
variable {prog : Program} {w : World} {A : Around} {E : Value → Shared → Prop} {s : Shared}
theorem enumTurn {e c l : Addr} {i : Nat} {j : Int} {its : Array Value} {x o0 : Value} {Q : Value → Shared → Prop} (hE : IsEnum s.heap e c j o0) (hC : s.heap.IsListIter c l i) (hL : s.heap.IsList l its) (hX : its[i]? = some x) (ne : e ≠ c)
    (q : ∀ h', IsEnumOut h' e c (j + 1) x s.heap.objs.size → h'.IsListIter c l (i + 1) → h'.get? s.heap.objs.size = some { cls := .type "tuple", data := .seq #[.int j s.toks, x] } →
      (∀ b o, b ≠ e → b ≠ c → s.heap.get? b = some o → h'.get? b = some o) → Q (.ref s.heap.objs.size) { s with heap := h', toks := s.toks + 1 }) :
    wpAny (model prog w) A (Builtin.«enumerate.__next__» ⟨[.ref e], []⟩) (fun fin s' => ∃ v, fin = .done (.ret v) ∧ Q v s') E s := by
  obtain ⟨h0, g, d, tk, os⟩ := s
  refine wpAny_bind (m := field (.ref e) 2) (wpAny_field hE rfl (x := .ref c) rfl (wpAny_bind (wpAny_nextOf_list_item hC hL hX fun h1 c1 (b1 : Heap.SameBut c h0 h1) => ?_)))
  have e1 : IsEnum h1 e c j o0 := (b1.2 e ne).trans hE
  refine wpAny_bind (m := field (.ref e) 3) (wpAny_field e1 rfl (x := rawInt j) rfl ?_)
  refine wpAny_bind (m := field (.ref e) 4) (wpAny_field e1 rfl (x := .none) rfl ?_)
  refine wpAny_bind (m := mkInt j) (wpAny_mkInt ?_)
  refine wpAny_bind (m := setField (.ref e) 3 (rawInt (j + 1))) (wpAny_setField_rec e1 (by simp) fun h2 (e2 : IsEnum h2 e c (j + 1) o0) (b2 : Heap.SameBut e h1 h2) => ?_)
  refine wpAny_bind (m := setField (.ref e) 4 .none) (wpAny_setField_rec e2 (by simp) fun h3 (e3 : IsEnum h3 e c (j + 1) o0) (b3 : Heap.SameBut e h2 h3) => ?_)
  refine wpAny_bind (m := newTuple [.int j tk, x]) (wpAny_newTuple ?_)
  have zz : h3.objs.size = h0.objs.size := by rw [b3.1, b2.1, b1.1]
  have lt : e < h0.objs.size := Heap.lt_size hE
  have e4 : IsEnum (h3.push { cls := .type "tuple", data := .seq #[.int j tk, x] }) e c (j + 1) o0 := Heap.get?_push_of_some _ e3
  have t4 : (h3.push { cls := .type "tuple", data := .seq #[.int j tk, x] }).get? h0.objs.size = some { cls := .type "tuple", data := .seq #[.int j tk, x] } := by rw [← zz]; exact Heap.get?_push_size _ rfl
  have k4 : ∀ b o, b ≠ e → b ≠ c → h0.get? b = some o → (h3.push { cls := .type "tuple", data := .seq #[.int j tk, x] }).get? b = some o := fun b o n1 n2 q =>
    Heap.get?_push_of_some _ (b3.extBut b o n1 (b2.extBut b o n1 (b1.extBut b o n2 q)))
  have c4 : (h3.push { cls := .type "tuple", data := .seq #[.int j tk, x] }).IsListIter c l (i + 1) := by
    obtain ⟨o, ho, r⟩ := (c1.extBut b2.extBut (Ne.symm ne)).extBut b3.extBut (Ne.symm ne)
    exact ⟨o, Heap.get?_push_of_some _ ho, r⟩
  rw [show (⟨h3, g, d, tk + 1, os⟩ : Shared).heap.objs.size = h0.objs.size from zz]
  generalize h3.push { cls := .type "tuple", data := .seq #[.int j tk, x] } = h4 at e4 t4 k4 c4
  clear e3 b3 e2 b2 e1 b1 c1 zz
  refine wpAny_bind (m := Builtin.SmallTypes.ownedTupleIsFree (.ref e)) ?_
  unfold Builtin.SmallTypes.ownedTupleIsFree
  refine wpAny_bind (wpAny_field e4 rfl (x := .none) rfl (wpAny_pure ?_))
  simp only [if_true]
  refine wpAny_bind (wpAny_rule (wpAny_bind (wpAny_field e4 rfl (x := o0) rfl (wpAny_bind (wpAny_setField_rec e4 (by simp) fun h5 (e5 : IsEnum h5 e c (j + 1) x) (b5 : Heap.SameBut e h4 h5) => ?_)))))
  refine wpAny_bind (m := Builtin.SmallTypes.ownedTupleHandOut (.ref e) (.ref h0.objs.size)) ?_
  unfold Builtin.SmallTypes.ownedTupleHandOut
  refine wpAny_bind (wpAny_setField_rec e5 (by simp) fun h6 (e6 : IsEnumOut h6 e c (j + 1) x h0.objs.size) (b6 : Heap.SameBut e h5 h6) => ?_)
  refine wpAny_setField_rec e6 (by simp) fun h7 (e7 : IsEnumOut h7 e c (j + 1) x h0.objs.size) (b7 : Heap.SameBut e h6 h7) => ?_
  refine wpAny_bind (wpAny_letGo (wpAny_pure ⟨_, rfl, q h7 e7 (((c4.extBut b5.extBut (Ne.symm ne)).extBut b6.extBut (Ne.symm ne)).extBut b7.extBut (Ne.symm ne)) ?_ ?_⟩))
  · exact b7.extBut _ _ (Nat.ne_of_gt lt) (b6.extBut _ _ (Nat.ne_of_gt lt) (b5.extBut _ _ (Nat.ne_of_gt lt) t4))
  · exact fun b o n1 n2 q => b7.extBut b o n1 (b6.extBut b o n1 (b5.extBut b o n1 (k4 b o n1 n2 q)))
theorem enumGoes {e c l : Addr} {i : Nat} {j : Int} {its : Array Value} {x o0 : Value} {Q : Option Value → Shared → Prop} (hE : IsEnum s.heap e c j o0) (hC : s.heap.IsListIter c l i) (hL : s.heap.IsList l its) (hX : its[i]? = some x) (ne : e ≠ c)
    (q : ∀ h', IsEnumOut h' e c (j + 1) x s.heap.objs.size → h'.IsListIter c l (i + 1) → h'.get? s.heap.objs.size = some { cls := .type "tuple", data := .seq #[.int j s.toks, x] } →
      (∀ b o, b ≠ e → b ≠ c → s.heap.get? b = some o → h'.get? b = some o) → Q (some (.ref s.heap.objs.size)) { s with heap := h', toks := s.toks + 1 }) : wpAny (model prog w) A (pyNext (.ref e)) Q E s := by
  have ty : s.TypeIs (.ref e) "enumerate" := ⟨_, hE, rfl⟩
  unfold pyNext
  exact wpAny_bind (wpAny_attempt (wpAny_callSpecial?_slot (name := Str.ofString "__next__") ty F.slot_enumerate_next (wpAny_call_entry F.slot_enumerate_next ty F.entry_enumerate_next
      (enumTurn hE hC hL hX ne fun h' a b c k => wpAny_pure (q h' a b c k)) (F.args_enumerate_next_1 _))))
theorem enumEnds {e c l : Addr} {i : Nat} {j : Int} {its : Array Value} {o0 : Value} {Q : Option Value → Shared → Prop} (hh : A.handled = none) (hE : IsEnum s.heap e c j o0) (hC : s.heap.IsListIter c l i) (hL : s.heap.IsList l its) (hX : its[i]? = none)
    (q : ∀ h', Heap.ExtBut c s.heap h' → Q none { s with heap := h' }) : wpAny (model prog w) A (pyNext (.ref e)) Q E s := by
  have ty : s.TypeIs (.ref e) "enumerate" := ⟨_, hE, rfl⟩
  unfold pyNext
  refine wpAny_bind (wpAny_attempt (wpAny_callSpecial?_slot (name := Str.ofString "__next__") ty F.slot_enumerate_next (wpAny_call_entry F.slot_enumerate_next ty F.entry_enumerate_next ?_ (F.args_enumerate_next_1 _))))
  refine wpAny_bind (m := field (.ref e) 2) (wpAny_field hE rfl (x := .ref c) rfl (wpAny_bind (wpAny_nextOf_list_end hh hC hL hX fun h' x he' hx' => ?_)))
  obtain ⟨o, ho, hc⟩ := hx'
  exact wpAny_bind (wpAny_isInstance (T := "StopIteration") (b := true) ⟨o, ho, hc⟩ isSubtype_stop (wpAny_pure (q _ he')))
end
end PySem
namespace L2
open PySem PySem.Spec PyProof.Rows
theorem bt_enumerate : bootBuiltins "enumerate" = some (.type "enumerate") := by decide +kernel
/-- the pairs of a number and an item -/
def Ite (K : PySem.W.Frag) (l : Addr) (k : Int) : It :=
  ⟨fun i H => ∃ xs x, SqL K H l xs ∧ xs[i]? = some x,
   fun i H v H' => ∃ T x, (∀ xs, SqL K H l xs → xs[i]? = some x) ∧ H T = none ∧ v = .ref T ∧ H' = upd H T (.tup [.int (k + (i : Nat)), x]),
   fun i H => ∃ xs, SqL K H l xs ∧ xs.length ≤ i⟩
def EnSt (e c l : Addr) (k : Int) (i : Nat) (h : Heap) : Prop := (∃ o0, IsEnum h e c (k + (i : Nat)) o0) ∧ h.IsListIter c l i
theorem turn_enum {P : Program} {w : World} {K : PySem.W.Frag} {elts : List Expr} {kt : Nat} {pt : Pos} {e c l : Addr} {k : Int} (ne : e ≠ c) : Turn P w K (.Tuple elts kt pt) (Ite K l k) [e, c] e (EnSt e c l k) where
  mem := by simp
  obj := fun i h st b hb => by
    obtain ⟨⟨o0, h1⟩, h2⟩ := st
    simp only [List.mem_cons, List.not_mem_nil, or_false] at hb
    rcases hb with rfl | rfl
    · exact ⟨_, h1, fun v q => by cases q⟩
    · obtain ⟨o, e, c, d⟩ := h2
      exact ⟨o, e, fun v q => by rw [d] at q; cases q⟩
  keep := fun i h h' st k => by
    obtain ⟨⟨o0, h1⟩, h2⟩ := st
    exact ⟨⟨o0, k e (by simp) _ h1⟩, h2.at fun o q => k c (by simp) o q⟩
  item := by
    intro X hP hw hK hc i pins s σ H E I hf st hg
    subst hP hw hK
    obtain ⟨xs, x, q1, hx⟩ := hg
    obtain ⟨⟨o0, h1⟩, h2⟩ := st
    obtain ⟨its, rv, p, hsz⟩ := I.list q1
    obtain ⟨u, hu, ru⟩ := rv.get hx
    refine enumGoes h1 h2 p.isList (x := u) (by simpa using hu) ne fun h' a1 a2 a3 hk => ?_
    have hT0 : H s.heap.objs.size = none := I.hok.fresh (Nat.le_refl _)
    have J1 : Inv X pins σ (upd H s.heap.objs.size (.tup [.int (k + (i : Nat)), x])) { s with heap := s.heap.push { cls := .type "tuple", data := .seq #[.int (k + (i : Nat)) s.toks, u] }, toks := s.toks + 1 } :=
      I.laid (t' := s.toks + 1) (fun b o e => Heap.get?_push_of_some _ e) (Nat.le_refl _) (show ObjOk X.prog X.w _ _ _ (.tup [.int (k + (i : Nat)), x]) from ⟨(by show 2 ≤ sizeLine; decide), [.int (k + (i : Nat)) s.toks, u], .cons ⟨_, rfl⟩ (.cons ru .nil), IsTup.new _ _⟩)
    have lt : ∀ b ∈ [e, c], b ≠ s.heap.objs.size := fun b hb => by
      simp only [List.mem_cons, List.not_mem_nil, or_false] at hb
      rcases hb with rfl | rfl
      · exact Nat.ne_of_lt (Heap.lt_size h1)
      · obtain ⟨o, e, _⟩ := h2; exact Nat.ne_of_lt (Heap.lt_size e)
    have hf2 : ∀ b ∈ [e, c], FpOk X pins (upd H s.heap.objs.size (.tup [.int (k + (i : Nat)), x])) b := fun b hb => ⟨by rw [upd_ne (lt b hb)]; exact (hf b hb).1, (hf b hb).2⟩
    have J2 : Inv X pins σ (upd H s.heap.objs.size (.tup [.int (k + (i : Nat)), x])) { s with heap := h', toks := s.toks + 1 } := Inv.turnedL (s := { s with heap := s.heap.push { cls := .type "tuple", data := .seq #[.int (k + (i : Nat)) s.toks, u] }, toks := s.toks + 1 }) (t' := s.toks + 1) (h' := h') (ch := [e, c]) J1 (fun b o hb q => by
      rcases Heap.get?_push_cases q with ⟨rfl, rfl⟩ | q'
      · exact a3
      · simp only [List.mem_cons, List.not_mem_nil, or_false, not_or] at hb
        exact hk b o hb.1 hb.2 q') hf2
    refine ⟨.ref s.heap.objs.size, rfl, ?_⟩
    refine wpAny_letOwnedTupleGo_enum (s := { s with heap := h', toks := s.toks + 1 }) a1 fun h2' hz' hs' => ?_
    obtain ⟨g0, g1, g2, g3, g4, g5⟩ := hf2 e (by simp)
    refine ⟨.ref s.heap.objs.size, _, J2.turned (t' := s.toks + 1) (fun b o hb q => (hs'.2 b hb).trans q) g0 g1 g3 g4 g5, rfl, ⟨s.heap.objs.size, x, fun xs' e1 => ?_, hT0, rfl, rfl⟩, ?_, fun b hb => (hf2 b hb).1⟩
    · rw [I.list_inj e1 q1]
      exact hx
    · refine ⟨⟨u, ?_⟩, a2.extBut hs'.extBut (Ne.symm ne)⟩
      have ek : k + ((i + 1 : Nat) : Int) = k + (i : Nat) + 1 := by omega
      rw [ek]
      exact hz'
  done := by
    intro X hP hw hK hc i pins s σ H E I hf st hg
    subst hP hw hK
    obtain ⟨xs, q1, hend⟩ := hg
    obtain ⟨⟨o0, h1⟩, h2⟩ := st
    obtain ⟨its, rv, p, hsz⟩ := I.list q1
    have l1e := rv.length
    refine enumEnds (I.ok.hd hc) h1 h2 p.isList (by simp; omega) fun h' hk => ⟨rfl, I.turnedL (t' := s.toks) (ch := [e, c]) (fun b o hb q => ?_) hf⟩
    simp only [List.mem_cons, List.not_mem_nil, or_false, not_or] at hb
    exact hk b o hb.2 q
  self := fun _ _ _ _ _ st h => wpAny_pyIter_enum st.1.choose_spec h
end L2
/-! OWN RULES: for a, b in enumerate(xs, start=n) -/
namespace L2
open PySem PySem.Spec PyProof.Rows
theorem kwType {M : Model} {A : Around} {E : Value → Shared → Prop} {s : Shared} {pos : Pos} {T : String} {as : List (Bool × Sem Value)} {ks : List (Option Str × Sem Value)} {Q : Value → Shared → Prop} (n1 : as.any (·.1) = false) (n2 : ks.any (·.1.isNone) = false)
    (h : wpAny M A (evalArgs (.type T) true as ks) (fun a s₁ => wpAny M A (call (.type T) a.pos a.kw) Q E s₁) E s) : wpAny M A (callWith pos (.type T) [] as ks) Q E s := by
  unfold callWith
  refine wpAny_bind (wpAny_holding (thn h fun a s₁ h₁ => wpAny_bind (wpAny_standAt ?_)))
  simp only [n1, n2, Bool.or_false]
  exact wpAny_bind (wpAny_pure (wpAny_bind (thn h₁ fun r s₂ hr => wpAny_bind (wpAny_holding (wpAny_point (wpAny_pure hr))))))
section
variable {X : Cx} {K : PySem.W.Frag} {elts : List Expr} {kt : Nat} {pt : Pos}
def iEnum (K : PySem.W.Frag) (ta : TA) (tb : TE) : TI := fun σ H R => ta σ H fun vs H1 => tb σ H1 fun y H2 => ∃ (l : Addr) (xs : List V) (k : Int), vs = [.ref l] ∧ y = .int k ∧ SqL K H2 l xs ∧ (-(2 ^ 62) ≤ k ∧ k < 2 ^ 62) ∧ R (Ite K l k) H2
theorem pi_enum {a b : Expr} {ta : TA} {tb : TE} {p pos kp : Pos} (hg : Gl X "enumerate") (hm : X.mg "enumerate" = none) (ha : PA X [a] ta) (hb : PE X b tb) (hK : X.K = K := by rfl)
    (he : backTo pos (starEach [a] X.env) = (false, eval a X.env) :: backTo pos (starEach [] X.env) := by rfl) (n1 : (backTo pos (starEach [a] X.env)).any (·.1) = false := by rfl)
    (hall : (backToKw pos (keywordEach [⟨some "start", b, kp⟩] X.env)).all (·.1.isSome) = true := by rfl) (n2 : (backToKw pos (keywordEach [⟨some "start", b, kp⟩] X.env)).any (·.1.isNone) = false := by rfl)
    (hz : (backToKw pos (keywordEach [⟨some "start", b, kp⟩] X.env)).filterMap (·.1) = [("start" : Str)] := by rfl) :
    PI X (.Tuple elts kt pt) (.Call (.Name "enumerate" p) [a] [⟨some "start", b, kp⟩] pos) (iEnum K ta tb) := by
  subst hK
  intro pins s σ H R I h
  refine wpAny_Call_Name_kw (ld_blt I hg hm bt_enumerate (kwType n1 n2 ?_))
  have go := ha pos pins s σ H _ I h
  rw [he] at go ⊢
  refine evalArgs_kwB hall (thn go fun us s1 ⟨vs, H1, I1, r1, q1⟩ => kws_cons (thn (hb pins s1 σ H1 _ I1 q1) fun v2 s2 ⟨y, H2, I2, r2, q2⟩ => kws_nil ?_))
  obtain ⟨l, xs, k, rfl, rfl, hS, hk, q⟩ := q2
  obtain ⟨u, rfl, ru⟩ := vals1 r1
  cases ru
  obtain ⟨t, rfl⟩ := r2
  obtain ⟨its, rv, pl, hz2⟩ := I2.list hS
  rw [hz]
  have hf : Builtin.SmallTypes.fitsIndex k = true := by
    unfold Builtin.SmallTypes.fitsIndex
    simp only [Bool.and_eq_true, decide_eq_true_eq]
    omega
  refine enum_called pl.isList hf fun h' a1 a2 hkeep => wpAny_pyIter_enum a1 ?_
  have lt : s2.heap.objs.size ≠ s2.heap.objs.size + 1 := by omega
  refine ⟨s2.heap.objs.size + 1, [s2.heap.objs.size + 1, s2.heap.objs.size], _, _, H2, rfl, I2.kept (t' := s2.toks) hkeep, turn_enum (Ne.symm lt), ⟨⟨.none, ?_⟩, a2⟩, fun b hb2 => ?_, q⟩
  · have e0 : k + ((0 : Nat) : Int) = k := by omega
    rw [e0]; exact a1
  have hle : s2.heap.objs.size ≤ b := by
    simp only [List.mem_cons, List.not_mem_nil, or_false] at hb2
    rcases hb2 with rfl | rfl <;> omega
  exact I2.fpOk hle (I2.hok.fresh hle)
theorem for_enum {K : PySem.W.Frag} {l : Addr} {k : Int} {xs : List V} {g : TG} {tb : TS} {D : Ends} {σ : St} {H : Hp} (Pv : Nat → St → Hp → Prop) (h0 : Pv 0 σ H) (hl : ∀ i σ H, i ≤ xs.length → Pv i σ H → SqL K H l xs)
    (hs : ∀ i x σ H T, xs[i]? = some x → Pv i σ H → H T = none → g (.ref T) σ (upd H T (.tup [.int (k + (i : Nat)), x])) fun σ2 H2 => tb { D with nx := Pv (i + 1), ct := Pv (i + 1), bk := D.nx } σ2 H2) (hd : ∀ σ H, Pv xs.length σ H → D.nx σ H) :
    ∃ W : Nat → Nat → St → Hp → Prop, (∃ m, W 0 m σ H) ∧ ∀ i m σ H, W i m σ H →
      ((Ite K l k).stop i H ∧ D.nx σ H) ∨ ((Ite K l k).go i H ∧ ∃ N : St → Hp → Prop, (∀ σ' H', N σ' H' → ∃ m', m' < m ∧ W (i + 1) m' σ' H') ∧ ∀ x H', (Ite K l k).yld i H x H' → g x σ H' fun σ2 H2 => tb { D with nx := N, ct := N, bk := D.nx } σ2 H2) := by
  refine ⟨fun i m σ H => m = xs.length - i ∧ i ≤ xs.length ∧ Pv i σ H, ⟨_, rfl, Nat.zero_le _, h0⟩, ?_⟩
  rintro i m σ H ⟨rfl, hi, p⟩
  have hS := hl i σ H hi p
  by_cases hlt : i < xs.length
  · refine .inr ⟨⟨xs, xs[i], hS, List.getElem?_eq_getElem hlt⟩, Pv (i + 1), fun σ' H' p' => ⟨xs.length - (i + 1), by omega, rfl, hlt, p'⟩, fun x H' y => ?_⟩
    obtain ⟨T, x, hx, hT, rfl, rfl⟩ := y
    exact hs i x σ H T (hx xs hS) p hT
  · have e : i = xs.length := by omega
    subst e
    exact .inl ⟨⟨xs, hS, Nat.le_refl _⟩, hd σ H p⟩
end
end L2
/-! OWN RULES: xs[k::m] of a list: a list of some of its items -/
namespace L2
open PySem PySem.Spec PyProof.Rows
theorem Vals.pick {xs : List V} {us : List Value} (r : Vals xs us) : ∀ idx : List Nat, Vals (idx.filterMap (xs[·]?)) (idx.filterMap (us.toArray[·]?))
  | [] => .nil
  | i :: rest => by
    have ih := Vals.pick r rest
    have e : us.toArray[i]? = us[i]? := by simp
    by_cases hi : i < xs.length
    · obtain ⟨u, hu, ru⟩ := r.get (List.getElem?_eq_getElem hi)
      rw [List.filterMap_cons, List.filterMap_cons, List.getElem?_eq_getElem hi]
      simp only [e, hu]
      exact .cons ru ih
    · have h1 : xs[i]? = none := List.getElem?_eq_none (Nat.le_of_not_lt hi)
      have h2 := r.none_of h1
      rw [List.filterMap_cons, List.filterMap_cons, h1]
      simp only [e, h2]
      exact ih
section
variable {X : Cx} {K : PySem.W.Frag}
def tStep (K : PySem.W.Frag) (te tl ts : TE) : TE := fun σ H Q => te σ H fun x H1 => tl σ H1 fun y H2 => ts σ H2 fun z H3 => ∃ (k m : Int) (a : Addr) (xs : List V), y = .int k ∧ z = .int m ∧ m ≠ 0 ∧ x = .ref a ∧ SqL K H3 a xs ∧
  ∀ p zs, (∀ v ∈ zs, v ∈ xs) → zs.length ≤ xs.length → H3 p = none → Q (.ref p) (upd H3 p (.lst zs))
theorem pe_step {e lo st : Expr} {te tl ts : TE} {p2 pos : Pos} (he : PE X e te) (hlo : PE X lo tl) (hst : PE X st ts) (hK : X.K = K := by rfl) : PE X (.Subscript e (.Slice (some lo) none (some st) p2) pos) (tStep K te tl ts) := by
  subst hK
  intro pins s σ H Q I h
  refine Subscript_ (thn (he pins s σ H _ I h) fun v s1 ⟨x, H1, I1, r1, q1⟩ => wpAny_Slice ?_)
  rw [evalPart_some]
  refine thn (hlo pins s1 σ H1 _ I1 q1) fun w2 s2 ⟨y, H2, I2, ry, q2⟩ => wpAny_pure ?_
  rw [evalPart_some]
  refine thn (hst pins s2 σ H2 _ I2 q2) fun w3 s3 ⟨z, H3, I3, rz, q3⟩ => ?_
  obtain ⟨k, m, a, xs, rfl, rfl, hm, rfl, hS, q⟩ := q3
  obtain ⟨tk, rfl⟩ := ry
  obtain ⟨tm, rfl⟩ := rz
  cases r1
  have I4 : Inv X pins σ H3 { s3 with heap := s3.heap.push { cls := .type "slice", data := .fields #[.int k tk, .none, .int m tm] } } := I3.kept (t' := s3.toks) fun b ob q => Heap.get?_push_of_some _ q
  obtain ⟨its, r, pl, hz⟩ := I4.list hS
  have hlen := r.length
  show wpAny (model X.prog X.w) X.A (subscriptTail e (.Slice (some lo) none (some st) p2) (.ref a) (.ref s3.heap.objs.size)) (EP X pins σ Q) X.xe { s3 with heap := s3.heap.push { cls := .type "slice", data := .fields #[.int k tk, .none, .int m tm] } }
  refine tail_any (ops := [.ref a, .ref s3.heap.objs.size]) pl.isList.typeIs slot_list_getitem.lookup ?_ (by with_unfolding_all rfl)
  refine wpAny_getItem_list_slice (st := some m) pl.isList (Heap.IsSliceOf.new ..) (.int k tk) .none (.int m tm) (by simpa using hm) ?_ (by rw [List.size_toArray] <;> omega)
  have hp := slicePick_size_le its.toArray (some k) none (some m)
  unfold slicePick at hp ⊢
  generalize sliceRange (sliceBounds (some k) none (some m) its.toArray.size).1 (sliceBounds (some k) none (some m) its.toArray.size).2.1 (sliceBounds (some k) none (some m) its.toArray.size).2.2 = idx at hp ⊢
  have hr := r.pick idx
  have hl2 := hr.length
  rw [List.size_toArray, List.size_toArray] at hp
  have hle : (idx.filterMap (xs[·]?)).length ≤ xs.length := by omega
  refine ⟨.ref _, _, I4.laid (t' := s3.toks) (o := .lst (idx.filterMap (xs[·]?))) (fun b ob q => Heap.get?_push_of_some _ q) (Nat.le_refl _) ⟨Nat.le_trans hle hz, _, 0, hr, Heap.get?_push_size _ rfl⟩, rfl, q _ _ (fun v hv => ?_) hle (I4.hok.fresh (Nat.le_refl _))⟩
  obtain ⟨i, _, hi⟩ := List.mem_filterMap.mp hv
  exact List.mem_of_getElem? hi
end
end L2
/-! what built_up does, for any kind of tree: the walk down leaves the nodes in their order, the walk back makes of each the outcome of its parts -/
namespace BV
open PySem L2
/-- all stays but what lies at addresses of S -/
abbrev AS := Addr → Prop
def Kp (S : AS) (H H' : Hp) : Prop := (∀ b xs, H b = some (.tup xs) → H' b = some (.tup xs)) ∧ ∀ b o, H b = some o → ¬ S b → H' b = some o
theorem Kp.refl (S : AS) (H : Hp) : Kp S H H := ⟨fun _ _ h => h, fun _ _ h _ => h⟩
theorem Kp.trans {S : AS} {H H1 H2 : Hp} (a : Kp S H H1) (b : Kp S H1 H2) : Kp S H H2 := ⟨fun c xs h => b.1 c xs (a.1 c xs h), fun c xs h n => b.2 c xs (a.2 c xs h n) n⟩
theorem Kp.of {S : AS} {H H' : Hp} (h : Same H H') : Kp S H H' := ⟨fun b o q => h b _ q, fun b o q _ => h b o q⟩
theorem Kp.upd {S : AS} {H : Hp} {p : Addr} {xs : List V} (h : S p) (hp : H p = some (.lst xs)) (o : HO) : Kp S H (upd H p o) := ⟨fun b u q => by
  rw [upd_ne (ne_of q hp (by intro z; cases z))]; exact q, fun b u q n => by
  have e : b ≠ p := fun e => n (by rw [e]; exact h)
  rw [upd_ne e]; exact q⟩
theorem Kp.tups {S : AS} {H H' : Hp} (h : Kp S H H') {b : Addr} {xs : List V} (q : H b = some (.tup xs)) : H' b = some (.tup xs) := h.1 b xs q
/-- S' is S and what is not there yet -/
def Wd (H : Hp) (S S' : AS) : Prop := ∀ a, S' a → S a ∨ H a = none
theorem same_new {H : Hp} {p : Addr} (h : H p = none) (o : HO) : Same H (upd H p o) := fun b u q => by rw [upd_ne (ne_of_none q h)]; exact q
/-- a kind of tree, how one stands on the heap, what its outcome is there -/
structure Tr where
  T : Type
  kids : T → List T
  size : T → Nat
  val : AS → Hp → T → V → Prop
  res : AS → Hp → T → V → Prop
  hsz : ∀ t, size t = 1 + ((kids t).map size).sum
  vm : ∀ {S H H' t v}, Kp S H H' → val S H t v → val S H' t v
  rm : ∀ {S H H' t v}, Kp S H H' → res S H t v → res S H' t v
  vw : ∀ {S S' H t v}, Wd H S S' → val S H t v → val S' H t v
  rw' : ∀ {S S' H t v}, Wd H S S' → res S H t v → res S' H t v
inductive All2 {α β : Type} (R : α → β → Prop) : List α → List β → Prop where
  | nil : All2 R [] []
  | cons {a b as bs} : R a b → All2 R as bs → All2 R (a :: as) (b :: bs)
namespace All2
variable {α β : Type} {R S : α → β → Prop}
theorem imp {as : List α} {bs : List β} (h : All2 R as bs) (f : ∀ a b, R a b → S a b) : All2 S as bs := by
  induction h with
  | nil => exact .nil
  | cons r _ ih => exact .cons (f _ _ r) ih
theorem app {as as' : List α} {bs bs' : List β} (h : All2 R as bs) (h' : All2 R as' bs') : All2 R (as ++ as') (bs ++ bs') := by
  induction h with
  | nil => exact h'
  | cons r _ ih => exact .cons r ih
theorem rev {as : List α} {bs : List β} (h : All2 R as bs) : All2 R as.reverse bs.reverse := by
  induction h with
  | nil => exact .nil
  | cons r _ ih => rw [List.reverse_cons, List.reverse_cons]; exact ih.app (.cons r .nil)
theorem len {as : List α} {bs : List β} (h : All2 R as bs) : as.length = bs.length := by
  induction h with
  | nil => rfl
  | cons _ _ ih => simp only [List.length_cons, ih]
theorem get {as : List α} {bs : List β} (h : All2 R as bs) : ∀ {i : Nat} {b : β}, bs[i]? = some b → ∃ a, as[i]? = some a ∧ R a b := by
  induction h with
  | nil => intro i b e; simp at e
  | @cons a b as bs r _ ih =>
    intro i c e
    cases i with
    | zero => simp at e; subst e; exact ⟨a, rfl, r⟩
    | succ i => exact ih (by simpa using e)
theorem get' {as : List α} {bs : List β} (h : All2 R as bs) : ∀ {i : Nat} {a : α}, as[i]? = some a → ∃ b, bs[i]? = some b ∧ R a b := by
  induction h with
  | nil => intro i b e; simp at e
  | @cons a b as bs r _ ih =>
    intro i c e
    cases i with
    | zero => simp at e; subst e; exact ⟨b, rfl, r⟩
    | succ i => exact ih (by simpa using e)
theorem split {as as' : List α} : ∀ {bs : List β}, All2 R (as ++ as') bs → ∃ b1 b2, bs = b1 ++ b2 ∧ All2 R as b1 ∧ All2 R as' b2 := by
  induction as with
  | nil => intro bs h; exact ⟨[], bs, rfl, .nil, h⟩
  | cons a as ih =>
    intro bs h
    cases h with
    | cons r h =>
      obtain ⟨b1, b2, rfl, h1, h2⟩ := ih h
      exact ⟨_ :: b1, b2, rfl, .cons r h1, h2⟩
end All2
/-- the nodes met so far, what waits (the next one first) -/
inductive Reach (D : Tr) (t0 : D.T) : List D.T → List D.T → Prop where
  | start : Reach D t0 [] [t0]
  | step {A : List D.T} {t : D.T} {r : List D.T} : Reach D t0 A (t :: r) → Reach D t0 (A ++ [t]) (D.kids t ++ r)
theorem Reach.back {D : Tr} {t0 t : D.T} {A W : List D.T} (h : Reach D t0 (A ++ [t]) W) : ∃ r, W = D.kids t ++ r ∧ Reach D t0 A (t :: r) := by
  generalize e : A ++ [t] = B at h
  cases h with
  | start => simp at e
  | step h =>
    have := List.append_inj' e rfl
    obtain ⟨rfl, e2⟩ := this
    cases e2
    exact ⟨_, rfl, h⟩
theorem Reach.first {D : Tr} {t0 : D.T} {W : List D.T} (h : Reach D t0 [] W) : W = [t0] := by
  generalize e : ([] : List D.T) = B at h
  cases h with
  | start => rfl
  | step h => simp at e
theorem Reach.size {D : Tr} {t0 : D.T} {A W : List D.T} (h : Reach D t0 A W) : A.length + (W.map D.size).sum = D.size t0 := by
  induction h with
  | start => simp
  | @step A t r _ ih =>
    simp only [List.length_append, List.length_cons, List.length_nil, List.map_append, List.sum_append, List.map_cons, List.sum_cons] at ih ⊢
    have := D.hsz t
    omega
theorem Tr.pos (D : Tr) (t : D.T) : 1 ≤ D.size t := by have := D.hsz t; omega
theorem Tr.len_le (D : Tr) : ∀ W : List D.T, W.length ≤ (W.map D.size).sum
  | [] => Nat.le_refl _
  | t :: r => by have := D.pos t; have := D.len_le r; simp only [List.length_cons, List.map_cons, List.sum_cons]; omega
theorem Tr.kids_le (D : Tr) (t : D.T) : (D.kids t).length ≤ D.size t := by have := D.len_le (D.kids t); have := D.hsz t; omega
/-- a node that was met: a pair of it and the number of its parts -/
def MetAt (D : Tr) (S : AS) (H : Hp) (t : D.T) (x : V) : Prop := ∃ p v, x = .ref p ∧ H p = some (.tup [v, .int ((D.kids t).length : Nat)]) ∧ D.val S H t v
theorem MetAt.mono {D : Tr} {S : AS} {H H' : Hp} (m : Kp S H H') {t : D.T} {x : V} (h : MetAt D S H t x) : MetAt D S H' t x := by
  obtain ⟨p, v, e, hp, hv⟩ := h
  exact ⟨p, v, e, m.tups hp, D.vm m hv⟩
theorem MetAt.wide {D : Tr} {S S' : AS} {H : Hp} (m : Wd H S S') {t : D.T} {x : V} (h : MetAt D S H t x) : MetAt D S' H t x := by
  obtain ⟨p, v, e, hp, hv⟩ := h
  exact ⟨p, v, e, hp, D.vw m hv⟩
def spP (D : Tr) : Sp := fun vs H Q _ => ∃ S t v, vs = [v] ∧ D.val S H t v ∧ D.size t ≤ 400000 ∧ ∀ r H' ps, Same H H' → H r = none → H' r = some (.lst ps) → All2 (D.val S H') (D.kids t) ps → Q (.ref r) H'
def spM (D : Tr) : Sp := fun vs H Q _ => ∃ S t v l us, vs = [v, .ref l] ∧ D.val S H t v ∧ D.size t ≤ 400000 ∧ H l = some (.lst us) ∧ ¬ S l ∧ (∀ a, S a → H a ≠ none) ∧ All2 (D.res S H) (D.kids t) us ∧ ∀ r H', Same H H' → D.res S H' t r → Q r H'
def spBuilt (P : Program) (w : World) (K : PySem.W.Frag) (mg : Str → Option Value) (base : Heap) : Sp := fun vs H Q _ => ∃ (D : Tr) (S : AS) (t : D.T) (v : V) (fp fm : Addr) (dp dm : FuncData) (np nm : List Str),
  vs = [v, .ref fp, .ref fm] ∧ FnOk P w K mg base CX0 2 fp dp np (spP D) ∧ PySem.W.keepIn K (.ref fp) = true ∧ Binds K dp np [] ∧ FnOk P w K mg base CX0 2 fm dm nm (spM D) ∧ PySem.W.keepIn K (.ref fm) = true ∧ Binds K dm nm [] ∧
  (∀ a, S a → H a ≠ none) ∧ D.val S H t v ∧ D.size t ≤ 400000 ∧ ∀ r H', Same H H' → D.res S H' t r → Q r H'
end BV
namespace BV
open PySem L2
theorem upd_id {H : Hp} {a : Addr} {o : HO} (h : H a = some o) : upd H a o = H := by
  funext b
  unfold upd
  split
  · rename_i e; rw [e, h]
  · rfl
end BV
/-! placed terms, how they and their counted kin stand on the heap, their rows -/
namespace CP
open PySem L2 BV
inductive Lab where
  | num (i : Int) | tru (b : Bool) | non | slot (k : Int) | two (j : Nat) | one (j : Nat) | ite | let_ (k : Int) | fn (taken : List Int) (size : Int) | do_ | call (n : Int)
inductive Pt where
  | node (lab : Lab) (ks : List Pt)
namespace Pt
def lab : Pt → Lab | .node l _ => l
def kids : Pt → List Pt | .node _ ks => ks
mutual
def size : Pt → Nat
  | .node _ ks => 1 + sizes ks
def sizes : List Pt → Nat
  | [] => 0
  | t :: r => t.size + sizes r
end
theorem sizes_eq : ∀ ks : List Pt, sizes ks = (ks.map size).sum
  | [] => rfl
  | t :: r => by simp only [sizes, List.map_cons, List.sum_cons, sizes_eq r]
theorem size_eq : ∀ t : Pt, t.size = 1 + (t.kids.map size).sum
  | .node _ ks => by show 1 + sizes ks = _; rw [sizes_eq]; rfl
def isFn : Lab → Bool
  | .fn _ _ => true
  | _ => false
mutual
def fns : Pt → Nat
  | .node l ks => (if isFn l then 1 else 0) + fnss ks
def fnss : List Pt → Nat
  | [] => 0
  | t :: r => t.fns + fnss r
end
theorem fnss_eq : ∀ ks : List Pt, fnss ks = (ks.map fns).sum
  | [] => rfl
  | t :: r => by simp only [fnss, List.map_cons, List.sum_cons, fnss_eq r]
theorem fns_eq : ∀ t : Pt, t.fns = (if isFn t.lab then 1 else 0) + (t.kids.map fns).sum
  | .node l ks => by show (if isFn l then 1 else 0) + fnss ks = _; rw [fnss_eq]; rfl
mutual
theorem fns_le : ∀ t : Pt, t.fns ≤ t.size
  | .node l ks => by
    have := fnss_le ks
    show (if isFn l then 1 else 0) + fnss ks ≤ 1 + sizes ks
    split <;> omega
theorem fnss_le : ∀ ks : List Pt, fnss ks ≤ sizes ks
  | [] => Nat.le_refl _
  | t :: r => by have := fns_le t; have := fnss_le r; simp only [fnss, sizes]; omega
end
theorem size_pos (t : Pt) : 1 ≤ t.size := by rw [size_eq]; omega
theorem kid_size {t k : Pt} (h : k ∈ t.kids) : k.size < t.size := by
  rw [size_eq t]
  have : ∀ ks : List Pt, k ∈ ks → k.size ≤ (ks.map size).sum := by
    intro ks hk
    induction ks with
    | nil => cases hk
    | cons a r ih =>
      simp only [List.map_cons, List.sum_cons]
      rcases List.mem_cons.mp hk with rfl | h
      · omega
      · have := ih h; omega
  have := this _ h
  omega
end Pt
def sgS : Nat → Str
  | 0 => "<" | 1 => "=" | 2 => ":" | 3 => "+" | 4 => "-" | 5 => "*" | _ => "/"
def sgR : Nat → Str
  | 0 => "less" | 1 => "same" | 2 => "cons" | 3 => "add" | 4 => "sub" | 5 => "mul" | _ => "div"
def wdS : Nat → Str
  | 0 => "head" | 1 => "tail" | 2 => "empty" | _ => "not"
/-- a label, the values of the parts, the items of the tuple -/
inductive Shp (H : Hp) : Lab → List V → List V → Prop where
  | num (i : Int) : Shp H (.num i) [] [.str "number", .int i]
  | tru (b : Bool) : Shp H (.tru b) [] [.str "truth", .bl b]
  | non : Shp H .non [] [.str "none"]
  | slot (k : Int) : Shp H (.slot k) [] [.str "slot", .int k]
  | two (j : Nat) (a b : V) : j < 7 → Shp H (.two j) [a, b] [.str "two", .str (sgS j), a, b]
  | one (j : Nat) (a : V) : j < 4 → Shp H (.one j) [a] [.str "one", .str (wdS j), a]
  | ite (a b c : V) : Shp H .ite [a, b, c] [.str "if", a, b, c]
  | let_ (k : Int) (a b : V) : Shp H (.let_ k) [a, b] [.str "let", .int k, a, b]
  | fn (ts : List Int) (n : Int) (a : V) {p : Addr} : ts.length ≤ 30 → H p = some (.tup (ts.map V.int)) → Shp H (.fn ts n) [a] [.str "fn", .ref p, .int n, a]
  | do_ (a b : V) : Shp H .do_ [a, b] [.str "do", a, b]
  | call (n : Int) (ps : List V) {c : Addr} : ps.length ≤ 1000 → H c = some (.tup ps) → Shp H (.call n) ps [.str "call", .int n, .ref c]
theorem Shp.mono {H H' : Hp} {l : Lab} {ps xs : List V} (h : Shp H l ps xs) (m : ∀ b xs, H b = some (.tup xs) → H' b = some (.tup xs)) : Shp H' l ps xs := by
  cases h with
  | num i => exact .num i
  | tru b => exact .tru b
  | non => exact .non
  | slot k => exact .slot k
  | two j a b h => exact .two j a b h
  | one j a h => exact .one j a h
  | ite a b c => exact .ite a b c
  | let_ k a b => exact .let_ k a b
  | fn ts n a h hp => exact .fn ts n a h (m _ _ hp)
  | do_ a b => exact .do_ a b
  | call n ps h hc => exact .call n ps h (m _ _ hc)
def form : Lab → Str
  | .num _ => "number" | .tru _ => "truth" | .non => "none" | .slot _ => "slot" | .two _ => "two" | .one _ => "one" | .ite => "if" | .let_ _ => "let" | .fn _ _ => "fn" | .do_ => "do" | .call _ => "call"
theorem Shp.head {H : Hp} {l : Lab} {ps xs : List V} (h : Shp H l ps xs) : ∃ r, xs = .str (form l) :: r := by
  cases h <;> exact ⟨_, rfl⟩
mutual
def PAt (H : Hp) : Pt → V → Prop
  | .node l ks, v => ∃ p xs vs, v = .ref p ∧ H p = some (.tup xs) ∧ Shp H l vs xs ∧ PsAt H ks vs
def PsAt (H : Hp) : List Pt → List V → Prop
  | [], vs => vs = []
  | t :: r, vs => ∃ u us, vs = u :: us ∧ PAt H t u ∧ PsAt H r us
end
mutual
theorem PAt.mono {H H' : Hp} (m : ∀ b xs, H b = some (.tup xs) → H' b = some (.tup xs)) : ∀ (t : Pt) (v : V), PAt H t v → PAt H' t v
  | .node l ks, v, h => by
    obtain ⟨p, xs, vs, rfl, hp, hs, hk⟩ := h
    exact ⟨p, xs, vs, rfl, m _ _ hp, hs.mono m, PsAt.mono m ks vs hk⟩
theorem PsAt.mono {H H' : Hp} (m : ∀ b xs, H b = some (.tup xs) → H' b = some (.tup xs)) : ∀ (ks : List Pt) (vs : List V), PsAt H ks vs → PsAt H' ks vs
  | [], vs, h => h
  | t :: r, vs, h => by
    obtain ⟨u, us, rfl, h1, h2⟩ := h
    exact ⟨u, us, rfl, PAt.mono m t u h1, PsAt.mono m r us h2⟩
end
theorem PsAt.all2 {H : Hp} : ∀ {ks : List Pt} {vs : List V}, PsAt H ks vs → All2 (PAt H) ks vs
  | [], vs, h => by cases (h : vs = []); exact .nil
  | t :: r, vs, h => by obtain ⟨u, us, rfl, h1, h2⟩ := h; exact .cons h1 (PsAt.all2 h2)
theorem PsAt.of {H : Hp} {ks : List Pt} {vs : List V} (h : All2 (PAt H) ks vs) : PsAt H ks vs := by
  induction h with
  | nil => rfl
  | cons h1 _ ih => exact ⟨_, _, rfl, h1, ih⟩
theorem PAt.open {H : Hp} {t : Pt} {v : V} (h : PAt H t v) : ∃ p xs vs, v = .ref p ∧ H p = some (.tup xs) ∧ Shp H t.lab vs xs ∧ All2 (PAt H) t.kids vs := by
  cases t with
  | node l ks =>
    obtain ⟨p, xs, vs, e, hp, hs, hk⟩ := h
    exact ⟨p, xs, vs, e, hp, hs, hk.all2⟩
theorem PAt.mk {H : Hp} {l : Lab} {ks : List Pt} {p : Addr} {xs vs : List V} (hp : H p = some (.tup xs)) (hs : Shp H l vs xs) (hk : All2 (PAt H) ks vs) : PAt H (.node l ks) (.ref p) :=
  ⟨p, xs, vs, rfl, hp, hs, .of hk⟩
/-! counted terms: a tuple of the term, how many fns stand in it, the list of its parts, counted -/
mutual
def CAt (S : AS) (H : Hp) : Pt → V → Prop
  | .node l ks, v => ∃ p tv c us, v = .ref p ∧ H p = some (.tup [tv, .int ((Pt.node l ks).fns : Nat), .ref c]) ∧ PAt H (.node l ks) tv ∧ H c = some (.lst us) ∧ ¬ S c ∧ CsAt S H ks us
def CsAt (S : AS) (H : Hp) : List Pt → List V → Prop
  | [], vs => vs = []
  | t :: r, vs => ∃ u us, vs = u :: us ∧ CAt S H t u ∧ CsAt S H r us
end
mutual
theorem CAt.mono {S : AS} {H H' : Hp} (m : Kp S H H') : ∀ (t : Pt) (v : V), CAt S H t v → CAt S H' t v
  | .node l ks, v, h => by
    obtain ⟨p, tv, c, us, rfl, hp, ht, hc, hn, hk⟩ := h
    exact ⟨p, tv, c, us, rfl, m.1 _ _ hp, PAt.mono m.1 _ _ ht, m.2 _ _ hc hn, hn, CsAt.mono m ks us hk⟩
theorem CsAt.mono {S : AS} {H H' : Hp} (m : Kp S H H') : ∀ (ks : List Pt) (vs : List V), CsAt S H ks vs → CsAt S H' ks vs
  | [], vs, h => h
  | t :: r, vs, h => by
    obtain ⟨u, us, rfl, h1, h2⟩ := h
    exact ⟨u, us, rfl, CAt.mono m t u h1, CsAt.mono m r us h2⟩
end
mutual
theorem CAt.wide {S S' : AS} {H : Hp} (m : Wd H S S') : ∀ (t : Pt) (v : V), CAt S H t v → CAt S' H t v
  | .node l ks, v, h => by
    obtain ⟨p, tv, c, us, rfl, hp, ht, hc, hn, hk⟩ := h
    exact ⟨p, tv, c, us, rfl, hp, ht, hc, fun z => (m c z).elim hn fun y => (by rw [hc] at y; cases y), CsAt.wide m ks us hk⟩
theorem CsAt.wide {S S' : AS} {H : Hp} (m : Wd H S S') : ∀ (ks : List Pt) (vs : List V), CsAt S H ks vs → CsAt S' H ks vs
  | [], vs, h => h
  | t :: r, vs, h => by
    obtain ⟨u, us, rfl, h1, h2⟩ := h
    exact ⟨u, us, rfl, CAt.wide m t u h1, CsAt.wide m r us h2⟩
end
theorem CsAt.all2 {S : AS} {H : Hp} : ∀ {ks : List Pt} {vs : List V}, CsAt S H ks vs → All2 (CAt S H) ks vs
  | [], vs, h => by cases (h : vs = []); exact .nil
  | t :: r, vs, h => by obtain ⟨u, us, rfl, h1, h2⟩ := h; exact .cons h1 (CsAt.all2 h2)
theorem CsAt.of {S : AS} {H : Hp} {ks : List Pt} {vs : List V} (h : All2 (CAt S H) ks vs) : CsAt S H ks vs := by
  induction h with
  | nil => rfl
  | cons h1 _ ih => exact ⟨_, _, rfl, h1, ih⟩
theorem CAt.open {S : AS} {H : Hp} {t : Pt} {v : V} (h : CAt S H t v) : ∃ p tv c us, v = .ref p ∧ H p = some (.tup [tv, .int (t.fns : Nat), .ref c]) ∧ PAt H t tv ∧ H c = some (.lst us) ∧ ¬ S c ∧ All2 (CAt S H) t.kids us := by
  cases t with
  | node l ks =>
    obtain ⟨p, tv, c, us, e, hp, ht, hc, hn, hk⟩ := h
    exact ⟨p, tv, c, us, e, hp, ht, hc, hn, hk.all2⟩
theorem CAt.mk {S : AS} {H : Hp} {t : Pt} {p c : Addr} {tv : V} {us : List V} (hp : H p = some (.tup [tv, .int (t.fns : Nat), .ref c])) (ht : PAt H t tv) (hc : H c = some (.lst us)) (hn : ¬ S c) (hk : All2 (CAt S H) t.kids us) : CAt S H t (.ref p) := by
  cases t with
  | node l ks => exact ⟨p, tv, c, us, rfl, hp, ht, hc, hn, .of hk⟩
/-- the walk that counts -/
def cTr : Tr where
  T := Pt
  kids := Pt.kids
  size := Pt.size
  val := fun _ H t v => PAt H t v
  res := CAt
  hsz := Pt.size_eq
  vm := fun k h => PAt.mono k.1 _ _ h
  rm := fun k h => CAt.mono k _ _ h
  vw := fun _ h => h
  rw' := fun k h => CAt.wide k _ _ h
/-! rows: lists of plain values -/
abbrev Row := List V
def rowsOf (first : Int) : Lab → List (List Row) → List Row
  | .num i, _ => [[.str "push", .int i]]
  | .tru b, _ => [[.str "push", .bl b]]
  | .non, _ => [[.str "none"]]
  | .slot k, _ => [[.str "load", .int k]]
  | .ite, [c, a, b] => c ++ [[.str "unless", .int ((a.length : Nat) + 1)]] ++ a ++ [[.str "skip", .int (b.length : Nat)]] ++ b
  | .let_ k, [a, b] => a ++ [[.str "keep", .int k]] ++ b
  | .fn ts _, _ => ts.map (fun s => [.str "load", .int s]) ++ [[.str "close", .int first, .int (ts.length : Nat)]]
  | .two j, ps => ps.flatten ++ [[.str (sgR j)]]
  | .one j, ps => ps.flatten ++ [[.str (wdS j)]]
  | .do_, ps => ps.flatten ++ [[.str "apply"]]
  | .call n, ps => ps.flatten ++ [[.str "call", .int n, .int (ps.length : Nat)]]
  | _, _ => []
mutual
def rows : Pt → Int → List Row
  | .node l ks, f => rowsOf f l (rowss ks f)
def rowss : List Pt → Int → List (List Row)
  | [], _ => []
  | t :: r, f => rows t f :: rowss r (f + (t.fns : Nat))
end
/-- the parts with their numbers -/
def nums : List Pt → Int → List (Pt × Int)
  | [], _ => []
  | t :: r, f => (t, f) :: nums r (f + (t.fns : Nat))
theorem rowss_eq : ∀ (ks : List Pt) (f : Int), rowss ks f = (nums ks f).map fun x => rows x.1 x.2
  | [], f => rfl
  | t :: r, f => by simp only [rowss, nums, List.map_cons, rowss_eq r]
theorem rows_eq (t : Pt) (f : Int) : rows t f = rowsOf f t.lab (rowss t.kids f) := by
  cases t with
  | node l ks => rfl
theorem rowss_len (ks : List Pt) (f : Int) : (rowss ks f).length = ks.length := by
  induction ks generalizing f with
  | nil => rfl
  | cons t r ih => simp only [rowss, List.length_cons, ih]
theorem nums_len (ks : List Pt) (f : Int) : (nums ks f).length = ks.length := by
  induction ks generalizing f with
  | nil => rfl
  | cons t r ih => simp only [nums, List.length_cons, ih]
def isPl : List Row → Bool := fun rs => rs.all fun r => r.all plainV
mutual
def rsize : Pt → Nat
  | .node l ks => 1 + (if Pt.isFn l then 0 else rsizes ks)
def rsizes : List Pt → Nat
  | [] => 0
  | t :: r => rsize t + rsizes r
end
mutual
theorem rsize_le : ∀ t : Pt, rsize t ≤ t.size
  | .node l ks => by
    have := rsizes_le ks
    show 1 + (if Pt.isFn l then 0 else rsizes ks) ≤ 1 + Pt.sizes ks
    split <;> omega
theorem rsizes_le : ∀ ks : List Pt, rsizes ks ≤ Pt.sizes ks
  | [] => Nat.le_refl _
  | t :: r => by have := rsize_le t; have := rsizes_le r; simp only [rsizes, Pt.sizes]; omega
end
def nkids (x : Pt × Int) : List (Pt × Int) := if Pt.isFn x.1.lab then [] else nums x.1.kids x.2
theorem rsizes_eq : ∀ (ks : List Pt) (f : Int), rsizes ks = ((nums ks f).map fun x => rsize x.1).sum
  | [], f => rfl
  | t :: r, f => by simp only [rsizes, nums, List.map_cons, List.sum_cons, rsizes_eq r (f + (t.fns : Nat))]
theorem rsize_eq (x : Pt × Int) : rsize x.1 = 1 + ((nkids x).map fun y => rsize y.1).sum := by
  obtain ⟨t, f⟩ := x
  cases t with
  | node l ks =>
    show 1 + (if Pt.isFn l then 0 else rsizes ks) = 1 + ((nkids (.node l ks, f)).map fun y => rsize y.1).sum
    unfold nkids
    show _ = 1 + ((if Pt.isFn l then [] else nums ks f).map fun y => rsize y.1).sum
    cases Pt.isFn l
    · simp only [Bool.false_eq_true, if_false]; rw [rsizes_eq ks f]
    · simp
mutual
theorem rows_len {H : Hp} : ∀ (t : Pt) (v : V) (f : Int), PAt H t v → (rows t f).length ≤ 32 * rsize t
  | .node l ks, v, f, h => by
    obtain ⟨p, xs, vs, rfl, hp, hs, hk⟩ := h
    have hf := rowss_flat ks vs f hk
    have hk2 := hk.all2
    show (rowsOf f l (rowss ks f)).length ≤ 32 * (1 + (if Pt.isFn l then 0 else rsizes ks))
    cases hs with
    | num i | tru b | non | slot k => simp only [rowsOf, List.length_cons, List.length_nil]; omega
    | two j | one j | do_ | call n => simp only [rowsOf, Pt.isFn, List.length_append, List.length_cons, List.length_nil, Bool.false_eq_true, if_false]; omega
    | fn ts n a h hp => simp only [rowsOf, Pt.isFn, List.length_append, List.length_map, List.length_cons, List.length_nil, if_true]; omega
    | ite a b c =>
      cases hk2 with
      | cons _ hk2 => cases hk2 with
        | cons _ hk2 => cases hk2 with
          | cons _ hk2 =>
            cases hk2
            simp only [rowss, List.flatten_cons, List.flatten_nil, List.length_append, List.length_nil] at hf
            simp only [rowss, rowsOf, Pt.isFn, List.length_append, List.length_cons, List.length_nil, Bool.false_eq_true, if_false]
            omega
    | let_ k a b =>
      cases hk2 with
      | cons _ hk2 => cases hk2 with
        | cons _ hk2 =>
          cases hk2
          simp only [rowss, List.flatten_cons, List.flatten_nil, List.length_append, List.length_nil] at hf
          simp only [rowss, rowsOf, Pt.isFn, List.length_append, List.length_cons, List.length_nil, Bool.false_eq_true, if_false]
          omega
theorem rowss_flat {H : Hp} : ∀ (ks : List Pt) (vs : List V) (f : Int), PsAt H ks vs → (rowss ks f).flatten.length ≤ 32 * rsizes ks
  | [], vs, f, h => Nat.le_refl _
  | t :: r, vs, f, h => by
    obtain ⟨u, us, rfl, h1, h2⟩ := h
    have e1 := rows_len t u f h1
    have e2 := rowss_flat r us (f + (t.fns : Nat)) h2
    simp only [rowss, rsizes, List.flatten_cons, List.length_append]
    omega
end
/-- a row: a tuple of plain values -/
def RowAt (H : Hp) (r : Row) (v : V) : Prop := ∃ p, v = .ref p ∧ H p = some (.tup r)
theorem RowAt.mono {H H' : Hp} (m : ∀ b xs, H b = some (.tup xs) → H' b = some (.tup xs)) {r : Row} {v : V} (h : RowAt H r v) : RowAt H' r v := by
  obtain ⟨p, e, hp⟩ := h
  exact ⟨p, e, m _ _ hp⟩
def RowsL (S : AS) (H : Hp) (rs : List Row) (v : V) : Prop := ∃ l us, v = .ref l ∧ H l = some (.lst us) ∧ ¬ S l ∧ All2 (RowAt H) rs us
def RowsT (H : Hp) (rs : List Row) (v : V) : Prop := ∃ p us, v = .ref p ∧ H p = some (.tup us) ∧ All2 (RowAt H) rs us
theorem RowsL.mono {S : AS} {H H' : Hp} (m : Kp S H H') {rs : List Row} {v : V} (h : RowsL S H rs v) : RowsL S H' rs v := by
  obtain ⟨l, us, e, hl, hn, h⟩ := h
  exact ⟨l, us, e, m.2 _ _ hl hn, hn, h.imp fun _ _ x => x.mono m.1⟩
theorem RowsL.wide {S S' : AS} {H : Hp} (m : Wd H S S') {rs : List Row} {v : V} (h : RowsL S H rs v) : RowsL S' H rs v := by
  obtain ⟨l, us, e, hl, hn, h⟩ := h
  exact ⟨l, us, e, hl, fun z => (m l z).elim hn fun y => (by rw [hl] at y; cases y), h⟩
theorem RowsT.mono {H H' : Hp} (m : ∀ b xs, H b = some (.tup xs) → H' b = some (.tup xs)) {rs : List Row} {v : V} (h : RowsT H rs v) : RowsT H' rs v := by
  obtain ⟨l, us, e, hl, h⟩ := h
  exact ⟨l, us, e, m _ _ hl, h.imp fun _ _ x => x.mono m⟩
def NAt (S : AS) (H : Hp) (x : Pt × Int) (v : V) : Prop := ∃ p cv, v = .ref p ∧ H p = some (.tup [cv, .int x.2]) ∧ CAt S H x.1 cv
def rTr : Tr where
  T := Pt × Int
  kids := nkids
  size := fun x => rsize x.1
  val := NAt
  res := fun S H x v => RowsL S H (rows x.1 x.2) v
  hsz := rsize_eq
  vm := fun k h => by obtain ⟨p, cv, e, hp, hc⟩ := h; exact ⟨p, cv, e, k.1 _ _ hp, CAt.mono k _ _ hc⟩
  rm := fun k h => h.mono k
  vw := fun k h => by obtain ⟨p, cv, e, hp, hc⟩ := h; exact ⟨p, cv, e, hp, CAt.wide k _ _ hc⟩
  rw' := fun k h => h.wide k
end CP
set_option maxHeartbeats 4000000
namespace BV
open PySem L2
seal PE PT PW PA PS PSs PTs PI PG PGs PO
def top (i : Nat) : Stmt := PySem.Challenge.pw_speakmill_k52_whole_heights.main.body.getD i (.Pass ⟨0, 0, 0, 0⟩)
abbrev s_built_up : Stmt := top 4
theorem sc_built_up : FnScope ["root", "parts_in", "made", "met", "waiting", "node", "parts", "done", "many", "made_parts"] ["root", "parts_in", "made"] (defScope s_built_up) := ⟨rfl, rfl, rfl, by decide +kernel, rfl, by decide +kernel, by decide +kernel⟩
/-- the built-ins' names stand for the built-ins -/
structure NoG (mg : Str → Option Value) : Prop where
  len_ : mg "len" = none
  list_ : mg "list" = none
  reversed_ : mg "reversed" = none
  range_ : mg "range" = none
  zip_ : mg "zip" = none
  isinstance_ : mg "isinstance" = none
  str_ : mg "str" = none
  tuple_ : mg "tuple" = none
  sum_ : mg "sum" = none
  max_ : mg "max" = none
  min_ : mg "min" = none
  int_ : mg "int" = none
  bool_ : mg "bool" = none
  enumerate_ : mg "enumerate" = none
  all_ : mg "all" = none
theorem ifT {c A B : Prop} [Decidable c] (h : c) (a : A) : if c then A else B := by rw [if_pos h]; exact a
theorem ifF {c A B : Prop} [Decidable c] (h : ¬ c) (b : B) : if c then A else B := by rw [if_neg h]; exact b
theorem upd_at {H : Hp} {a b : Addr} {o o' : HO} (h : H b = some o) (n : b ≠ a) : upd H a o' b = some o := by rw [upd_ne n]; exact h
theorem upd_none {H : Hp} {a b : Addr} {o' : HO} (h : upd H a o' b = none) : H b = none ∧ b ≠ a := by
  by_cases e : b = a
  · subst e; rw [upd_same] at h; cases h
  · rw [upd_ne e] at h; exact ⟨h, e⟩
theorem last_rev (y : V) (ws : List V) : (y :: ws).reverse[(y :: ws).reverse.length - 1]? = some y := by
  rw [List.reverse_cons]
  simp
theorem drop_rev (y : V) (ws : List V) : (y :: ws).reverse.dropLast = ws.reverse := by
  rw [List.reverse_cons]
  simp
theorem rev_eq {ws us : List V} (h : ws.reverse = us) : ws = us.reverse := by rw [← h, List.reverse_reverse]
theorem take_one {α : Type} {A : List α} {k : Nat} {t : α} (h : A[k]? = some t) : A.take (k + 1) = A.take k ++ [t] := by
  obtain ⟨h1, h2⟩ := List.getElem?_eq_some_iff.mp h
  rw [List.take_succ_eq_append_getElem h1, h2]
section
variable {P : Program} {w : World} {K : PySem.W.Frag} {mg : Str → Option Value} {base : Heap} {f : Addr} {fd : FuncData}
theorem ok_built_up (F : Fun K "built_up" "built_up" s_built_up f fd) (B : NoG mg) : FnOk P w K mg base CX0 3 f fd ["root", "parts_in", "made"] (spBuilt P w K mg base) := by
  refine F.ok sc_built_up (fun vs H Q E h => ?_) (fun cdv A outer s H vs Q E hr h => ?_)
  · obtain ⟨D, S, t, v, fp, fm, dp, dm, np, nm, rfl, _⟩ := h
    rfl
  obtain ⟨D, S, t, v, fp, fm, dp, dm, np, nm, rfl, FP, kp, bp, FM, km, bm, hSo, hval, hsz, q⟩ := h
  have nd := sc_built_up.nd
  have hu := hr.units0
  have z1 : (1 : Nat) ≤ sizeLine := by decide
  have z2 : (2 : Nat) ≤ sizeLine := by decide
  have z3 : (400000 : Nat) + 400000 < sizeLine := by decide
  refine ⟨_, (pss_cons (ps_set (i := 3) nd rfl (Or.inl rfl) (pe_lst pa_nil))
      (pss_cons (ps_set (i := 4) nd rfl (Or.inl rfl) (pe_lst (pa_cons (pv 0) pa_nil)))
      (pss_cons (ps_while PassesOwn.never (k_truth (K := K) (pv 4) (fun _ => rfl)) (pss_cons (ps_set (i := 5) nd rfl (Or.inl rfl) (k_bm0 (K := K) PySem.F.plainAttrs_list PySem.F.slot_list_pop PySem.F.type_list_pop mt_pop (pv 4)))
      (pss_cons (ps_set (i := 6) nd rfl (Or.inl rfl) (pe_callV (P := P) (w := w) (K := K) (mg := mg) (base := base) (pv 1) pass0 (pa_cons (pv 5) pa_nil)))
      (pss_cons (ps_expr (k_bm (K := K) PySem.F.plainAttrs_list PySem.F.slot_list_append PySem.F.type_list_append mt_append (pv 3) (pa_cons (pe_tup (pa_cons (pv 5) (pa_cons (pe_callB (k_len (K := K)) rfl B.len_ bt_len (pa_cons (pv 6) pa_nil)) pa_nil))) pa_nil)))
      (pss_one (ps_expr (k_bm (K := K) PySem.F.plainAttrs_list PySem.F.slot_list_extend PySem.F.type_list_extend mt_extend (pv 4) (pa_cons (pe_listRev (K := K) rfl B.reversed_ rfl B.list_ rfl (pa_cons (pv 6) pa_nil)) pa_nil))))))))
      (pss_cons (ps_set (i := 7) nd rfl (Or.inr rfl) (pe_lst pa_nil))
      (pss_cons (ps_for PassesOwn.never rfl (pi_rev (K := K) rfl B.reversed_ (pa_cons (pv 3) pa_nil)) (pg_tup rfl (pgs_cons (pg_name (i := 5) nd rfl (Or.inl rfl)) (pgs_cons (pg_name (i := 8) nd rfl (Or.inl rfl)) pgs_nil))) (pss_cons (ps_setComp (i := 9) nd rfl rfl (CompScope.mk (N := ["root", "parts_in", "made", "met", "waiting", "node", "parts", "done", "many", "made_parts"]) (sc := defScope s_built_up) (caps := [7]) (ns := ["done"]) (by decide +kernel) rfl (by decide +kernel) rfl (by decide +kernel) rfl (by decide +kernel) (by decide +kernel)) rfl rfl rfl (pi_range1 rfl B.range_ (pa_cons (pv 8) pa_nil)) (fun _ _ _ _ _ => pts_nil) (fun _ _ _ _ _ => (k_bm0 (K := K) PySem.F.plainAttrs_list PySem.F.slot_list_pop PySem.F.type_list_pop mt_pop (pv 1))))
      (pss_one (ps_expr (k_bm (K := K) PySem.F.plainAttrs_list PySem.F.slot_list_append PySem.F.type_list_append mt_append (pv 7) (pa_cons (pe_callV (P := P) (w := w) (K := K) (mg := mg) (base := base) (pv 2) pass0 (pa_cons (pv 5) (pa_cons (pv 9) pa_nil))) pa_nil))))))
      (pss_one (ps_ret (k_bm0 (K := K) PySem.F.plainAttrs_list PySem.F.slot_list_pop PySem.F.type_list_pop mt_pop (pv 7))))))))), ?_⟩
  refine ⟨(by show 0 ≤ sizeLine; decide), fun ml hml => ?_⟩
  refine ⟨_, rfl, z1, fun wl hwl0 => ?_⟩
  obtain ⟨hwl, nwm⟩ := upd_none hwl0
  have g0 : Same H (upd (upd H ml (.lst [])) wl (.lst [v])) := (same_new hml _).trans (same_new hwl0 _)
  obtain ⟨S1, w1, hS1, mS, wS, sub1⟩ : ∃ S1 : AS, Wd H S S1 ∧ (∀ H' : Hp, Same H H' → H' ml ≠ none → H' wl ≠ none → ∀ a, S1 a → H' a ≠ none) ∧ S1 ml ∧ S1 wl ∧ ∀ a, S a → S1 a := by
    refine ⟨fun a => S a ∨ a = ml ∨ a = wl, fun a ha => ?_, fun H' sm h1 h2 a ha => ?_, .inr (.inl rfl), .inr (.inr rfl), fun a h => .inl h⟩
    · rcases ha with h | rfl | rfl
      · exact .inl h
      · exact .inr hml
      · exact .inr hwl
    · rcases ha with h | rfl | rfl
      · obtain ⟨o, ho⟩ := Option.ne_none_iff_exists'.mp (hSo a h)
        rw [sm _ _ ho]; exact fun z => nomatch z
      · exact h1
      · exact h2
  have hval1 := D.vw w1 hval
  refine ⟨fun m σ H' => ∃ (N W : List D.T) (ms ws : List V) (y1 y2 : Option V), σ = [some v, some (.ref fp), some (.ref fm), some (.ref ml), some (.ref wl), y1, y2, none, none, none] ∧ Same H H' ∧ H' ml = some (.lst ms) ∧ H' wl = some (.lst ws) ∧
      All2 (MetAt D S1 H') N ms ∧ All2 (D.val S1 H') W ws.reverse ∧ Reach D t N W ∧ m = (W.map D.size).sum,
    ⟨D.size t, [], [t], [], [v], none, none, rfl, g0, upd_at upd_same (Ne.symm nwm), upd_same, .nil, .cons (D.vm (.of g0) hval1) .nil, .start, by simp⟩, ?_⟩
  rintro m σ H' ⟨N, W, ms, ws, y1, y2, rfl, sm, hm, hw, hN, hW, hR, rfl⟩
  have hms := hN.len
  have hRs := hR.size
  refine ⟨_, rfl, !ws.isEmpty, .inl ⟨ws, SqL.of hw, rfl⟩, ?_⟩
  generalize ew : ws.reverse = wr at hW
  have ew := rev_eq ew
  subst ew
  cases hW with
  | @cons n u W' wr hn hW' =>
    refine ifT (by simp) ?_
    refine ⟨_, fun _ _ h => h, ?_⟩
    -- node = waiting.pop()
    refine ⟨_, rfl, .inl ⟨rfl, _, SqL.of hw⟩, wl, _, _, rfl, rfl, hw, last_rev _ _, ?_⟩
    rw [drop_rev]
    have t1 : Kp S1 H' (upd H' wl (.lst wr.reverse)) := .upd wS hw _
    have hm1 : upd H' wl (.lst wr.reverse) ml = some (.lst ms) := upd_at hm (Ne.symm nwm)
    have hw1 : upd H' wl (.lst wr.reverse) wl = some (.lst wr.reverse) := upd_same
    have o1 : Same H (upd H' wl (.lst wr.reverse)) := fun b o e => upd_at (sm b o e) (ne_of_none e hwl)
    generalize upd H' wl (.lst wr.reverse) = H1 at t1 hm1 hw1 o1 ⊢
    have hkn := D.kids_le n
    have hszn : D.size n ≤ 400000 := by simp only [List.map_cons, List.sum_cons] at hRs; omega
    -- parts = parts_in(node)
    refine ⟨_, rfl, fp, dp, np, spP D, 2, rfl, FP, hr.mono (by decide), kp, bp, _, rfl, S1, n, u, rfl, D.vm t1 hn, hszn, fun r H2 ps s2 hr1 hr2 hps => ?_⟩
    have hm2 := s2 _ _ hm1
    have hw2 := s2 _ _ hw1
    have o2 := o1.trans s2
    have t2 : Kp S1 H' H2 := t1.trans (.of s2)
    have nrw : r ≠ wl := fun e => by subst e; rw [hw1] at hr1; cases hr1
    have nrm : r ≠ ml := fun e => by subst e; rw [hm1] at hr1; cases hr1
    have hpl := hps.len
    -- met.append((node, len(parts)))
    refine ⟨_, rfl, .inl ⟨rfl, _, SqL.of hm2⟩, _, rfl, _, rfl, _, _, rfl, .inl ⟨_, SqL.of hr2, rfl⟩, z2, fun p hp => ?_⟩
    have s3 : Same H2 (upd H2 p (.tup [u, .int (ps.length : Nat)])) := same_new hp _
    refine ⟨ml, _, _, rfl, rfl, s3 _ _ hm2, by omega, ?_⟩
    have t4 : Kp S1 H' (upd (upd H2 p (.tup [u, .int (ps.length : Nat)])) ml (.lst (ms ++ [.ref p]))) := (t2.trans (.of s3)).trans (.upd mS (s3 _ _ hm2) _)
    have hp4 : upd (upd H2 p (.tup [u, .int (ps.length : Nat)])) ml (.lst (ms ++ [.ref p])) p = some (.tup [u, .int (ps.length : Nat)]) := upd_at upd_same (fun e => by subst e; rw [hm2] at hp; cases hp)
    have hm4 : upd (upd H2 p (.tup [u, .int (ps.length : Nat)])) ml (.lst (ms ++ [.ref p])) ml = some (.lst (ms ++ [.ref p])) := upd_same
    have hw4 : upd (upd H2 p (.tup [u, .int (ps.length : Nat)])) ml (.lst (ms ++ [.ref p])) wl = some (.lst wr.reverse) := upd_at (s3 _ _ hw2) nwm
    have hr4 : upd (upd H2 p (.tup [u, .int (ps.length : Nat)])) ml (.lst (ms ++ [.ref p])) r = some (.lst ps) := upd_at (s3 _ _ hr2) nrm
    have o4 : Same H (upd (upd H2 p (.tup [u, .int (ps.length : Nat)])) ml (.lst (ms ++ [.ref p]))) := fun b o e => upd_at (s3 _ _ (o2 b o e)) (ne_of_none e hml)
    have t24 : Kp S1 H2 (upd (upd H2 p (.tup [u, .int (ps.length : Nat)])) ml (.lst (ms ++ [.ref p]))) := (Kp.of s3).trans (.upd mS (s3 _ _ hm2) _)
    generalize upd (upd H2 p (.tup [u, .int (ps.length : Nat)])) ml (.lst (ms ++ [.ref p])) = H4 at t4 hp4 hm4 hw4 hr4 o4 t24 ⊢
    -- waiting.extend(list(reversed(parts)))
    refine ⟨_, rfl, .inl ⟨rfl, _, SqL.of hw4⟩, _, rfl, r, ps, rfl, SqL.of hr4, fun r2 hr2' => ?_⟩
    have s5 : Same H4 (upd H4 r2 (.lst ps.reverse)) := same_new hr2' _
    have hWl := D.len_le W'
    have hWe := hW'.len
    refine ⟨wl, r2, _, _, rfl, rfl, s5 _ _ hw4, upd_same, ?_, ?_⟩
    · simp only [List.length_reverse]
      simp only [List.map_cons, List.sum_cons] at hRs
      omega
    have t6 : Kp S1 H4 (upd (upd H4 r2 (.lst ps.reverse)) wl (.lst (wr.reverse ++ ps.reverse))) := (Kp.of s5).trans (.upd wS (s5 _ _ hw4) _)
    refine ⟨_, ?_, N ++ [n], D.kids n ++ W', ms ++ [.ref p], wr.reverse ++ ps.reverse, _, _, rfl, fun b o e => upd_at (s5 _ _ (o4 b o e)) (ne_of_none e hwl), upd_at (s5 _ _ hm4) (Ne.symm nwm), upd_same, ?_, ?_, .step hR, rfl⟩
    · simp only [List.map_append, List.sum_append, List.map_cons, List.sum_cons]
      have := D.hsz n
      omega
    · refine (hN.imp fun a b h => h.mono (t4.trans t6)).app (.cons ⟨p, u, rfl, ?_, D.vm (t4.trans t6) hn⟩ .nil)
      rw [hpl]
      exact t6.tups hp4
    · rw [List.reverse_append, List.reverse_reverse, List.reverse_reverse]
      exact (hps.imp fun a b h => D.vm (t24.trans t6) h).app (hW'.imp fun a b h => D.vm (t4.trans t6) h)
  | nil =>
    refine ifF (by simp) ?_
    -- done = []
    refine ⟨(by show 0 ≤ sizeLine; decide), fun dl hdl => ?_⟩
    have s7 : Same H' (upd H' dl (.lst [])) := same_new hdl _
    have hdl0 : H dl = none := sm.free hdl
    have ndm : dl ≠ ml := fun e => by subst e; rw [hm] at hdl; cases hdl
    have hm' : H' ml ≠ none := by rw [hm]; exact fun z => nomatch z
    have hw' : H' wl ≠ none := by rw [hw]; exact fun z => nomatch z
    have ndw : dl ≠ wl := fun e => by subst e; rw [hw] at hdl; cases hdl
    obtain ⟨S2, w2, hS2, dS, sub2⟩ : ∃ S2 : AS, Wd H' S1 S2 ∧ (∀ H2 : Hp, Same H H2 → H2 ml ≠ none → H2 wl ≠ none → H2 dl ≠ none → ∀ a, S2 a → H2 a ≠ none) ∧ S2 dl ∧ ∀ a, S a → S2 a := by
      refine ⟨fun a => S1 a ∨ a = dl, fun a ha => ?_, fun H2 sm2 h1 h2 h3 a ha => ?_, .inr rfl, fun a h => .inl (sub1 a h)⟩
      · rcases ha with h | rfl
        · exact .inl h
        · exact .inr hdl
      · rcases ha with h | rfl
        · exact hS1 H2 sm2 h1 h2 a h
        · exact h3
    have hN2 := hN.imp fun a b h => h.wide w2
    refine ⟨_, rfl, ml, ms, rfl, SqL.of (s7 _ _ hm), for_rev (xs := ms) (fun i σ H' => ∃ (W : List D.T) (us : List V) (y1 y2 y3 y4 : Option V), σ = [some v, some (.ref fp), some (.ref fm), some (.ref ml), some (.ref wl), y1, y2, some (.ref dl), y3, y4] ∧ Same H H' ∧ H' ml = some (.lst ms) ∧ H' wl ≠ none ∧
      All2 (MetAt D S2 H') N ms ∧ H' dl = some (.lst us.reverse) ∧ All2 (D.res S2 H') W us ∧ Reach D t (N.take (N.length - i)) W) ?_ ?_ ?_ ?_⟩
    · exact ⟨[], [], _, _, _, _, rfl, sm.trans s7, s7 _ _ hm, (by rw [s7 _ _ hw]; exact fun z => nomatch z), hN2.imp fun a b h => h.mono (.of s7), upd_same, .nil, by rw [Nat.sub_zero, List.take_length]; exact hR⟩
    · rintro i σ H' _ ⟨W, us, y1, y2, y3, y4, rfl, sm, hm, _⟩
      exact SqL.of hm
    · rintro i x σ H' hx ⟨W, us, y1, y2, y3, y4, rfl, sm, hm, hwn, hN, hd, hW, hRi⟩
      have hi : i < ms.length := by
        have := (List.getElem?_eq_some_iff.mp hx).1
        simpa using this
      rw [List.getElem?_reverse hi] at hx
      obtain ⟨n, hn, p, u, rfl, hp, hu'⟩ := hN.get hx
      have e1 : N.length - i = (ms.length - 1 - i) + 1 := by omega
      rw [e1, take_one hn] at hRi
      obtain ⟨r, rfl, hRb⟩ := hRi.back
      obtain ⟨b1, b2, rfl, hb1, hb2⟩ := hW.split
      have hbl := hb1.len
      have hkn := D.kids_le n
      have hRs2 := hRb.size
      have hszn : D.size n ≤ 400000 := by simp only [List.map_cons, List.sum_cons] at hRs2; omega
      refine ⟨p, _, rfl, SqT.of hp, rfl, _, _, rfl, _, _, rfl, rfl, ?_⟩
      -- made_parts = [done.pop() for part in range(many)]
      refine ⟨_, rfl, ((D.kids n).length : Nat), rfl, by omega, by omega, comp_range (n := (D.kids n).length) (fun j ys H2 => ys = b1.take j ∧ H2 = upd H' dl (.lst (b1.drop j ++ b2).reverse)) ?_ ?_ ?_ ?_⟩
      · exact ⟨rfl, by rw [List.drop_zero]; exact (upd_id hd).symm⟩
      · rintro j ys H2 hj ⟨rfl, _⟩
        rw [List.length_take]
        omega
      · rintro j ys H2 hj ⟨rfl, rfl⟩
        refine noTest ?_
        have hjb : j < b1.length := by omega
        have ed : b1.drop j = b1[j] :: b1.drop (j + 1) := List.drop_eq_getElem_cons hjb
        rw [ed]
        refine ⟨_, rfl, .inl ⟨rfl, _, SqL.of upd_same⟩, dl, _, _, rfl, rfl, upd_same, last_rev _ _, ?_⟩
        refine ⟨?_, ?_⟩
        · rw [List.take_succ_eq_append_getElem hjb]
        · rw [upd_upd]
          congr 2
          exact drop_rev _ _
      · rintro ys H2 ⟨rfl, rfl⟩ l hl
        rw [hbl, List.drop_length, List.take_length, List.nil_append] at *
        have s8 : Same (upd H' dl (.lst b2.reverse)) (upd (upd H' dl (.lst b2.reverse)) l (.lst b1)) := same_new hl _
        have t8 : Kp S2 H' (upd (upd H' dl (.lst b2.reverse)) l (.lst b1)) := (Kp.upd dS hd _).trans (.of s8)
        have wn8 : upd (upd H' dl (.lst b2.reverse)) l (.lst b1) wl ≠ none := by
          obtain ⟨o, ho⟩ := Option.ne_none_iff_exists'.mp hwn
          rw [s8 _ _ (upd_at ho (Ne.symm ndw))]; exact fun z => nomatch z
        have hd8 : upd (upd H' dl (.lst b2.reverse)) l (.lst b1) dl = some (.lst b2.reverse) := s8 _ _ upd_same
        have hl8 : upd (upd H' dl (.lst b2.reverse)) l (.lst b1) l = some (.lst b1) := upd_same
        have hm8 : upd (upd H' dl (.lst b2.reverse)) l (.lst b1) ml = some (.lst ms) := s8 _ _ (upd_at hm (Ne.symm ndm))
        have o8 : Same H (upd (upd H' dl (.lst b2.reverse)) l (.lst b1)) := fun b o e => s8 _ _ (upd_at (sm b o e) (ne_of_none e hdl0))
        have hS8 := hS2 _ o8 (by rw [hm8]; exact fun z => nomatch z) wn8 (by rw [hd8]; exact fun z => nomatch z)
        have nlS : ¬ S2 l := fun z => by
          refine hS2 _ (fun b o e => upd_at (sm b o e) (ne_of_none e hdl0)) ?_ ?_ (by rw [upd_same]; exact fun z => nomatch z) l z hl
          · rw [upd_at hm (Ne.symm ndm)]; exact fun z => nomatch z
          · obtain ⟨o, ho⟩ := Option.ne_none_iff_exists'.mp hwn
            rw [upd_at ho (Ne.symm ndw)]; exact fun z => nomatch z
        generalize upd (upd H' dl (.lst b2.reverse)) l (.lst b1) = H8 at s8 t8 hd8 hl8 hm8 o8 wn8 hS8 ⊢
        -- done.append(made(node, made_parts))
        refine ⟨_, rfl, .inl ⟨rfl, _, SqL.of hd8⟩, _, rfl, fm, dm, nm, spM D, 2, rfl, FM, hr.mono (by decide), km, bm, _, rfl, _, rfl, S2, n, u, l, b1, rfl, D.vm t8 hu', hszn, hl8, nlS, hS8, hb1.imp fun a b h => D.rm t8 h, fun y H9 s9 hy => ?_⟩
        have hb2l := hb2.len
        have hrl := D.len_le r
        refine ⟨dl, _, _, rfl, rfl, s9 _ _ hd8, ?_, ?_⟩
        · rw [List.length_reverse]
          simp only [List.map_cons, List.sum_cons] at hRs2
          omega
        have t9 : Kp S2 H9 (upd H9 dl (.lst (b2.reverse ++ [y]))) := .upd dS (s9 _ _ hd8) _
        have t89 : Kp S2 H' (upd H9 dl (.lst (b2.reverse ++ [y]))) := (t8.trans (.of s9)).trans t9
        have wn9 : upd H9 dl (.lst (b2.reverse ++ [y])) wl ≠ none := by
          obtain ⟨o, ho⟩ := Option.ne_none_iff_exists'.mp wn8
          rw [upd_at (s9 _ _ ho) (Ne.symm ndw)]; exact fun z => nomatch z
        refine ⟨n :: r, y :: b2, _, _, _, _, rfl, fun b o e => upd_at (s9 _ _ (o8 b o e)) (ne_of_none e hdl0), upd_at (s9 _ _ hm8) (Ne.symm ndm), wn9, hN.imp fun a b h => h.mono t89, ?_, .cons (D.rm t9 hy) (hb2.imp fun a b h => D.rm t89 h), ?_⟩
        · rw [List.reverse_cons]; exact upd_same
        · have e2 : N.length - (i + 1) = ms.length - 1 - i := by omega
          rw [e2]; exact hRb
    · rintro σ H' ⟨W, us, y1, y2, y3, y4, rfl, sm, hm, hwn, hN, hd, hW, hRi⟩
      rw [← hms, Nat.sub_self, List.take_zero] at hRi
      cases hRi.first
      cases hW with
      | @cons _ y _ us hy hrest =>
        cases hrest
        refine ⟨_, rfl, .inl ⟨rfl, _, SqL.of hd⟩, dl, _, _, rfl, rfl, hd, rfl, ?_⟩
        exact q y _ (fun b o e => upd_at (sm b o e) (ne_of_none e hdl0)) (D.rw' (fun a ha => .inl (sub2 a ha)) (D.rm (.upd dS hd _) hy))
end
end BV
set_option maxHeartbeats 4000000
namespace CP
open PySem L2 BV
seal PE PT PW PA PS PSs PTs PI PG PGs PO
abbrev s_parts_of : Stmt := BV.top 2
abbrev s_placed_parts : Stmt := BV.top 6
abbrev s_counted : Stmt := BV.top 9
abbrev s_with_count : Stmt := BV.top 10
theorem sc_parts_of : FnScope ["term", "form"] ["term"] (defScope s_parts_of) := ⟨rfl, rfl, rfl, by decide +kernel, rfl, by decide +kernel, by decide +kernel⟩
theorem sc_placed_parts : FnScope ["term"] ["term"] (defScope s_placed_parts) := ⟨rfl, rfl, rfl, by decide +kernel, rfl, by decide +kernel, by decide +kernel⟩
theorem sc_counted : FnScope ["term"] ["term"] (defScope s_counted) := ⟨rfl, rfl, rfl, by decide +kernel, rfl, by decide +kernel, by decide +kernel⟩
theorem sc_with_count : FnScope ["term", "parts", "own"] ["term", "parts"] (defScope s_with_count) := ⟨rfl, rfl, rfl, by decide +kernel, rfl, by decide +kernel, by decide +kernel⟩
def PF : List (Str × V) := [("two", .int 2), ("one", .int 2), ("if", .int 1), ("let", .int 2), ("fn", .int 2), ("do", .int 1)]
theorem notWhole {n k : Nat} (hk : 0 < k) (hn : 0 < n) (o : Option Int) : ¬ (HT.sIx n 0 (some (k : Int)) = 0 ∧ HT.sIx n n o = n) := by
  rw [HT.sIx_nat]
  omega
theorem fn_dec (l : Lab) : decide (V.str (form l) = V.str "fn") = Pt.isFn l := by cases l <;> rfl
theorem tups_of {H H' : Hp} (h : Same H H') : ∀ b xs, H b = some (.tup xs) → H' b = some (.tup xs) := fun b xs q => h b _ q
theorem one1 : (1 : Nat) ≤ sizeLine := by decide
theorem two2 : (2 : Nat) ≤ sizeLine := by decide
theorem three3 : (3 : Nat) ≤ sizeLine := by decide
section
variable {P : Program} {w : World} {K : PySem.W.Frag} {mg : Str → Option Value} {base : Heap} {f : Addr} {fd : FuncData} {f_parts_of f_placed_parts f_built_up f_with_count f_counted : Addr} {d_parts_of d_placed_parts d_built_up d_with_count d_counted : FuncData} {pf : Addr}
def spParts : Sp := fun vs H Q _ => ∃ a l xs ps, vs = [.ref a] ∧ H a = some (.tup xs) ∧ Shp H l ps xs ∧ Pt.isFn l = false ∧ ∀ r H', Same H H' → H r = none → H' r = some (.lst ps) → Q (.ref r) H'
theorem ok_parts_of (F : Fun K "parts_of" "parts_of" s_parts_of f fd) (B : BV.NoG mg) (TD : TopD w K pf PF) (m_PARTS_FROM : mg "PARTS_FROM" = some (.ref pf)) : FnOk P w K mg base CX0 1 f fd ["term"] spParts := by
  refine F.ok sc_parts_of (fun vs H Q E h => ?_) (fun cdv A outer s H vs Q E hr h => ?_)
  · obtain ⟨a, l, xs, ps, rfl, _⟩ := h
    rfl
  obtain ⟨a, l, xs, ps, rfl, ha, hs, hl, q⟩ := h
  have nd := sc_parts_of.nd
  have hu := hr.units0
  refine ⟨_, (pss_cons (ps_set (i := 1) nd rfl (Or.inl rfl) (pe_ix (kIx (K := K) (w := w)) (pv 0) pe_int (fun _ _ => rfl)))
      (pss_cons (ps_if (pt_cmpR (kEq (K := K) hu) (pv 1) pe_str rfl) (pss_one (ps_ret (pe_callTy (k_list (K := K)) rfl B.list_ bt_list (pa_cons (pe_ix (kIx (K := K) (w := w)) (pv 0) pe_int (fun _ _ => rfl)) pa_nil)))) pss_nil)
      (pss_cons (ps_if (pt_cmpR (kIn (K := K) (w := w)) (pv 1) (pe_glob (v := .ref _) rfl m_PARTS_FROM rfl) rfl) (pss_one (ps_ret (pe_callTy (k_list (K := K)) rfl B.list_ bt_list (pa_cons (pe_slice (kSl (K := K)) (pv 0) (po_some (pe_ix (kIx (K := K) (w := w)) (pe_glob (v := .ref _) rfl m_PARTS_FROM rfl) (pv 1) (fun _ _ => rfl))) po_none) pa_nil)))) pss_nil)
      (pss_one (ps_ret (pe_lst pa_nil)))))), ?_⟩
  cases hs
  case call n c hn hc =>
    refine ⟨_, rfl, .inr (.inl ⟨a, _, 0, _, rfl, rfl, SqT.of ha, rfl, ?_⟩)⟩
    refine ⟨_, rfl, .inl ⟨rfl, _, rfl, ?_⟩⟩
    refine ifT (by decide) ?_
    refine ⟨_, rfl, .inr (.inl ⟨a, _, 2, _, rfl, rfl, SqT.of ha, rfl, ?_⟩)⟩
    refine ⟨_, _, rfl, .inr (SqT.of hc), fun l hl => ?_⟩
    exact q l _ (same_new hl _) hl upd_same
  case num | tru | non | slot =>
    refine ⟨_, rfl, .inr (.inl ⟨a, _, 0, _, rfl, rfl, SqT.of ha, rfl, ?_⟩)⟩
    refine ⟨_, rfl, .inl ⟨rfl, _, rfl, ?_⟩⟩
    refine ifF (by decide) ?_
    refine ⟨_, rfl, .inr (.inr ⟨_, _, PF, rfl, rfl, TD, _, rfl, ?_⟩)⟩
    refine ifF (by decide) ?_
    refine ⟨(by show 0 ≤ sizeLine; decide), fun l hl => ?_⟩
    exact q l _ (same_new hl _) hl upd_same
  case fn => cases hl
  all_goals
    refine ⟨_, rfl, .inr (.inl ⟨a, _, 0, _, rfl, rfl, SqT.of ha, rfl, ?_⟩)⟩
    refine ⟨_, rfl, .inl ⟨rfl, _, rfl, ?_⟩⟩
    refine ifF (by decide) ?_
    refine ⟨_, rfl, .inr (.inr ⟨_, _, PF, rfl, rfl, TD, _, rfl, ?_⟩)⟩
    refine ifT (by decide) ?_
    refine ⟨_, rfl, _, rfl, .inr (.inr (.inr ⟨_, _, PF, _, rfl, rfl, TD, rfl, _, rfl, .inr ⟨a, _, rfl, SqT.of ha, notWhole (by decide) (Nat.succ_pos _) _, fun p hp => ?_⟩⟩))⟩
    refine ⟨_, _, rfl, .inr (SqT.of upd_same), fun l hl => ?_⟩
    exact q l _ ((same_new hp _).trans (same_new hl _)) ((same_new hp _).free hl) upd_same

theorem ok_placed_parts (F : Fun K "placed_parts" "placed_parts" s_placed_parts f fd) (G_parts_of : FnOk P w K mg base CX0 1 f_parts_of d_parts_of ["term"] spParts) (b_parts_of : Binds K d_parts_of ["term"] []) (k_parts_of : PySem.W.keepIn K (.ref f_parts_of) = true) (m_parts_of : mg "parts_of" = some (.ref f_parts_of)) :
    FnOk P w K mg base CX0 2 f fd ["term"] (spP cTr) := by
  refine F.ok sc_placed_parts (fun vs H Q E h => ?_) (fun cdv A outer s H vs Q E hr h => ?_)
  · obtain ⟨S, t, v, rfl, _⟩ := h
    rfl
  obtain ⟨S, t, v, rfl, hv, hsz, q⟩ := h
  have nd := sc_placed_parts.nd
  have hu := hr.units0
  cases t with
  | node l ks =>
  obtain ⟨p, xs, vs, rfl, hp, hs, hk⟩ := PAt.open hv
  obtain ⟨rest, hx⟩ := hs.head
  have hat : atI xs ((0 : Nat) : Int) = some (.str (form l)) := atI_nat (by rw [hx]; rfl)
  refine ⟨_, (pss_cons (ps_if (pt_cmpR (kEq (K := K) hu) (pe_ix (kIx (K := K) (w := w)) (pv 0) pe_int (fun _ _ => rfl)) pe_str rfl) (pss_one (ps_ret (pe_lst (pa_cons (pe_ix (kIx (K := K) (w := w)) (pv 0) pe_int (fun _ _ => rfl)) pa_nil)))) pss_nil)
      (pss_one (ps_ret (pe_call G_parts_of (hr.mono (by first | decide | omega)) rfl m_parts_of k_parts_of b_parts_of .nil pass0 (pa_cons (pv 0) pa_nil))))), ?_⟩
  refine ⟨_, rfl, .inr (.inl ⟨p, _, 0, _, rfl, rfl, SqT.of hp, hat, .inl ⟨rfl, _, rfl, ?_⟩⟩)⟩
  rw [fn_dec]
  cases hb : Pt.isFn l
  · refine ifF Bool.false_ne_true ?_
    exact ⟨_, rfl, p, l, xs, vs, rfl, hp, hs, hb, fun r H' sm h1 h2 => q r H' vs sm h1 h2 (hk.imp fun a b h => PAt.mono (tups_of sm) a b h)⟩
  · refine ifT rfl ?_
    cases hs <;> first | (cases hb; done) | skip
    refine ⟨_, rfl, .inr (.inl ⟨p, _, 3, _, rfl, rfl, SqT.of hp, rfl, one1, fun r hr0 => q r _ _ (same_new hr0 _) hr0 upd_same (hk.imp fun a b h => PAt.mono (tups_of (same_new hr0 _)) a b h)⟩)⟩

theorem ok_with_count (F : Fun K "with_count" "with_count" s_with_count f fd) (B : BV.NoG mg) : FnOk P w K mg base CX0 2 f fd ["term", "parts"] (spM cTr) := by
  refine F.ok sc_with_count (fun vs H Q E h => ?_) (fun cdv A outer s H vs Q E hr h => ?_)
  · obtain ⟨S, t, v, l, us, rfl, _⟩ := h
    rfl
  obtain ⟨S, t, v, c, us, rfl, hv, hsz, hc, hnc, hSo, hus, q⟩ := h
  have nd := sc_with_count.nd
  have hu := hr.units0
  have hsz' : t.size ≤ 400000 := hsz
  have zz : (1000000 : Nat) ≤ sizeLine := by decide
  obtain ⟨p, xs, vs, rfl, hp, hs, hk⟩ := PAt.open hv
  obtain ⟨rest, hx⟩ := hs.head
  have hat : atI xs ((0 : Nat) : Int) = some (.str (form t.lab)) := atI_nat (by rw [hx]; rfl)
  refine ⟨_, (pss_cons (ps_cut (ps_set (i := 2) nd rfl (Or.inl rfl) (pe_ifExp (pt_cmpR (kEq (K := K) hu) (pe_ix (kIx (K := K) (w := w)) (pv 0) pe_int (fun _ _ => rfl)) pe_str rfl) pe_int pe_int)))
      (pss_one (ps_ret (pe_tup (pa_cons (pv 0) (pa_cons (pe_op uAdd (pv 2) (pe_callB (k_sum (K := K) rfl) rfl B.sum_ bt_sum (pa_cons (pe_comp (CompScope.mk (N := ["term", "parts", "own"]) (sc := defScope s_with_count) (caps := []) (ns := []) (by decide +kernel) rfl (by decide +kernel) rfl (by decide +kernel) rfl (by decide +kernel) (by decide +kernel)) rfl rfl rfl (k_ilist (K := K) (pv 1)) (fun _ _ _ _ _ => pts_nil) (fun _ _ _ _ _ => (pe_ix (kIx (K := K) (w := w)) (pv 0) pe_int (fun _ _ => rfl)))) pa_nil))) (pa_cons (pv 1) pa_nil))))))), ?_⟩
  refine ⟨fun σ H' => σ = [some (.ref p), some (.ref c), some (.int (if Pt.isFn t.lab then 1 else 0))] ∧ H = H', ?_, ?_⟩
  · refine ⟨_, rfl, .inr (.inl ⟨p, _, 0, _, rfl, rfl, SqT.of hp, hat, .inl ⟨rfl, _, rfl, ?_⟩⟩)⟩
    rw [fn_dec]
    cases Pt.isFn t.lab
    · exact ifF Bool.false_ne_true ⟨rfl, rfl⟩
    · exact ifT rfl ⟨rfl, rfl⟩
  rintro σ H' ⟨rfl, rfl⟩
  have hus' : All2 (CAt S H) t.kids us := hus
  have hul := hus'.len
  have hkl : t.kids.length ≤ t.size := cTr.kids_le t
  have hfe := Pt.fns_eq t
  have hfl := Pt.fns_le t
  refine ⟨_, rfl, _, rfl, _, rfl, c, rfl, ⟨us, SqL.of hc⟩, comp_list (xs := us) (fun j ys H2 => ys = ((t.kids.map Pt.fns).map fun n => V.int (n : Nat)).take j ∧ H2 = H) ⟨rfl, rfl⟩ ?_ ?_ ?_⟩
  · rintro i ys H2 hi ⟨rfl, rfl⟩
    refine ⟨SqL.of hc, ?_⟩
    rw [List.length_take, List.length_map, List.length_map]
    omega
  · rintro i x ys H2 hx2 ⟨rfl, rfl⟩
    refine noTest ?_
    obtain ⟨k, hk2, hck⟩ := hus'.get hx2
    obtain ⟨p2, tv, c2, us2, rfl, hp2, _⟩ := CAt.open hck
    refine ⟨_, rfl, .inr (.inl ⟨p2, _, 1, _, rfl, rfl, SqT.of hp2, rfl, ?_, rfl⟩)⟩
    have h3 : ((t.kids.map Pt.fns).map fun n => V.int (n : Nat))[i]? = some (V.int (k.fns : Nat)) := by
      rw [List.getElem?_map, List.getElem?_map, hk2]
      rfl
    exact (BV.take_one h3).symm
  · rintro ys H2 ⟨rfl, rfl⟩ r hr0
    have e3 : ((t.kids.map Pt.fns).map fun n => V.int (n : Nat)).take us.length = (t.kids.map Pt.fns).map fun n => V.int (n : Nat) := List.take_of_length_le (by rw [List.length_map, List.length_map]; omega)
    rw [e3]
    have s1 := same_new hr0 (.lst ((t.kids.map Pt.fns).map fun n => V.int (n : Nat)))
    refine ⟨r, t.kids.map Pt.fns, rfl, SqL.of upd_same, by omega, .inl ⟨_, _, rfl, rfl, _, rfl, three3, fun r2 hr2 => ?_⟩⟩
    have s2 := s1.trans (same_new hr2 (.tup [.ref p, .int ((if Pt.isFn t.lab then 1 else 0) + ((t.kids.map Pt.fns).sum : Nat)), .ref c]))
    have e4 : (if Pt.isFn t.lab then 1 else 0 : Int) + ((t.kids.map Pt.fns).sum : Nat) = (t.fns : Nat) := by
      rw [hfe]
      split <;> omega
    refine q _ _ s2 (CAt.mk (us := us) ?_ (PAt.mono (tups_of s2) _ _ hv) (s2 _ _ hc) hnc (hus'.imp fun a b h => CAt.mono (.of s2) a b h))
    rw [upd_same]
    show some (HO.tup [.ref p, .int ((if Pt.isFn t.lab then 1 else 0) + ((t.kids.map Pt.fns).sum : Nat)), .ref c]) = _
    rw [e4]

def spCounted : Sp := fun vs H Q _ => ∃ (S : AS) (t : Pt) (v : V), vs = [v] ∧ PAt H t v ∧ t.size ≤ 400000 ∧ (∀ a, S a → H a ≠ none) ∧ ∀ r H', Same H H' → CAt S H' t r → Q r H'
theorem ok_counted (F : Fun K "counted" "counted" s_counted f fd) (G_built_up : FnOk P w K mg base CX0 3 f_built_up d_built_up ["root", "parts_in", "made"] (BV.spBuilt P w K mg base)) (b_built_up : Binds K d_built_up ["root", "parts_in", "made"] []) (k_built_up : PySem.W.keepIn K (.ref f_built_up) = true) (m_built_up : mg "built_up" = some (.ref f_built_up))
    (G_placed_parts : FnOk P w K mg base CX0 2 f_placed_parts d_placed_parts ["term"] (spP cTr)) (b_placed_parts : Binds K d_placed_parts ["term"] []) (k_placed_parts : PySem.W.keepIn K (.ref f_placed_parts) = true) (m_placed_parts : mg "placed_parts" = some (.ref f_placed_parts))
    (G_with_count : FnOk P w K mg base CX0 2 f_with_count d_with_count ["term", "parts"] (spM cTr)) (b_with_count : Binds K d_with_count ["term", "parts"] []) (k_with_count : PySem.W.keepIn K (.ref f_with_count) = true) (m_with_count : mg "with_count" = some (.ref f_with_count)) :
    FnOk P w K mg base CX0 4 f fd ["term"] spCounted := by
  refine F.ok sc_counted (fun vs H Q E h => ?_) (fun cdv A outer s H vs Q E hr h => ?_)
  · obtain ⟨S, t, v, rfl, _⟩ := h
    rfl
  obtain ⟨S, t, v, rfl, hv, hsz, hS, q⟩ := h
  have nd := sc_counted.nd
  refine ⟨_, (pss_one (ps_ret (pe_call G_built_up (hr.mono (by first | decide | omega)) rfl m_built_up k_built_up b_built_up .nil pass0 (pa_cons (pv 0) (pa_cons (pe_glob (v := .ref _) rfl m_placed_parts rfl) (pa_cons (pe_glob (v := .ref _) rfl m_with_count rfl) pa_nil)))))), ?_⟩
  exact ⟨_, rfl, cTr, S, t, v, f_placed_parts, f_with_count, d_placed_parts, d_with_count, _, _, rfl, G_placed_parts, k_placed_parts, b_placed_parts, G_with_count, k_with_count, b_with_count, hS, hv, hsz, fun r H' sm e => q r H' sm e⟩
end
end CP
set_option maxHeartbeats 4000000
namespace CP
open PySem L2 BV
seal PE PT PW PA PS PSs PTs PI PG PGs PO
abbrev s_rows_of_counted : Stmt := BV.top 15
abbrev s_numbered_parts : Stmt := BV.top 16
abbrev s_rows_with : Stmt := BV.top 17
abbrev s_rows_of_if : Stmt := BV.top 18
abbrev s_one_behind_the_other : Stmt := BV.top 19
abbrev s_last_row : Stmt := BV.top 20
theorem sc_rows_of_counted : FnScope ["body", "first"] ["body", "first"] (defScope s_rows_of_counted) := ⟨rfl, rfl, rfl, by decide +kernel, rfl, by decide +kernel, by decide +kernel⟩
theorem sc_numbered_parts : FnScope ["node", "term", "number", "found", "part"] ["node"] (defScope s_numbered_parts) := ⟨rfl, rfl, rfl, by decide +kernel, rfl, by decide +kernel, by decide +kernel⟩
theorem sc_rows_with : FnScope ["node", "rows", "term", "form"] ["node", "rows"] (defScope s_rows_with) := ⟨rfl, rfl, rfl, by decide +kernel, rfl, by decide +kernel, by decide +kernel⟩
theorem sc_rows_of_if : FnScope ["asked", "chosen", "other"] ["asked", "chosen", "other"] (defScope s_rows_of_if) := ⟨rfl, rfl, rfl, by decide +kernel, rfl, by decide +kernel, by decide +kernel⟩
theorem sc_one_behind_the_other : FnScope ["rows", "found", "some"] ["rows"] (defScope s_one_behind_the_other) := ⟨rfl, rfl, rfl, by decide +kernel, rfl, by decide +kernel, by decide +kernel⟩
theorem sc_last_row : FnScope ["term", "form"] ["term"] (defScope s_last_row) := ⟨rfl, rfl, rfl, by decide +kernel, rfl, by decide +kernel, by decide +kernel⟩
def SR : List (Str × V) := [("+", .str "add"), ("-", .str "sub"), ("*", .str "mul"), ("/", .str "div"), ("<", .str "less"), ("=", .str "same"), (":", .str "cons")]
theorem SR_at {j : Nat} (h : j < 7) : SR.lookup (sgS j) = some (.str (sgR j)) := by
  have hj : j = 0 ∨ j = 1 ∨ j = 2 ∨ j = 3 ∨ j = 4 ∨ j = 5 ∨ j = 6 := by omega
  rcases hj with rfl | rfl | rfl | rfl | rfl | rfl | rfl <;> decide
def lastRow : Lab → Nat → Row
  | .two j, _ => [.str (sgR j)]
  | .one j, _ => [.str (wdS j)]
  | .do_, _ => [.str "apply"]
  | .call n, k => [.str "call", .int n, .int (k : Nat)]
  | _, _ => []
def isLast : Lab → Bool
  | .two _ | .one _ | .do_ | .call _ => true
  | _ => false
theorem rowsOf_last {l : Lab} (h : isLast l = true) (f : Int) (ps : List (List Row)) : rowsOf f l ps = ps.flatten ++ [lastRow l ps.length] := by
  cases l <;> first | (cases h; done) | rfl
theorem All2.mapL {α β γ : Type} {R : β → γ → Prop} {g : α → β} {as : List α} {bs : List γ} (h : All2 (fun a b => R (g a) b) as bs) : All2 R (as.map g) bs := by
  induction h with
  | nil => exact .nil
  | cons h _ ih => exact .cons h ih
theorem nums_at : ∀ (ks : List Pt) (f : Int) (i : Nat), (nums ks f)[i]? = (ks[i]?).map fun k => (k, f + (((ks.take i).map Pt.fns).sum : Nat))
  | [], f, i => by simp [nums]
  | t :: r, f, 0 => by simp [nums]
  | t :: r, f, i + 1 => by
    simp only [nums, List.getElem?_cons_succ, nums_at r, List.take_succ_cons, List.map_cons, List.sum_cons]
    congr 1
    funext k
    congr 1
    omega
theorem flat_take {α : Type} {xs : List (List α)} {i : Nat} {x : List α} (h : xs[i]? = some x) : (xs.take (i + 1)).flatten = (xs.take i).flatten ++ x := by
  rw [BV.take_one h]
  simp
theorem flat_len {α : Type} (xs : List (List α)) (i : Nat) : (xs.take i).flatten.length ≤ xs.flatten.length := by
  have e : xs = xs.take i ++ xs.drop i := (List.take_append_drop i xs).symm
  conv => rhs; rw [e]
  rw [List.flatten_append, List.length_append]
  omega
section
variable {P : Program} {w : World} {K : PySem.W.Frag} {mg : Str → Option Value} {base : Heap} {f : Addr} {fd : FuncData} {f_built_up f_counted f_numbered_parts f_rows_with f_rows_of_if f_one_behind_the_other f_last_row f_rows_of_counted : Addr} {d_built_up d_counted d_numbered_parts d_rows_with d_rows_of_if d_one_behind_the_other d_last_row d_rows_of_counted : FuncData} {sr : Addr}
def spLast : Sp := fun vs H Q _ => ∃ a l xs ps, vs = [.ref a] ∧ H a = some (.tup xs) ∧ Shp H l ps xs ∧ isLast l = true ∧ ∀ r H', Same H H' → H' r = some (.tup (lastRow l ps.length)) → Q (.ref r) H'
theorem ok_last_row (F : Fun K "last_row" "last_row" s_last_row f fd) (B : BV.NoG mg) (TD : TopD w K sr SR) (m_SIGN_ROWS : mg "SIGN_ROWS" = some (.ref sr)) : FnOk P w K mg base CX0 1 f fd ["term"] spLast := by
  refine F.ok sc_last_row (fun vs H Q E h => ?_) (fun cdv A outer s H vs Q E hr h => ?_)
  · obtain ⟨a, l, xs, ps, rfl, _⟩ := h
    rfl
  obtain ⟨a, l, xs, ps, rfl, ha, hs, hl, q⟩ := h
  have nd := sc_last_row.nd
  have hu := hr.units0
  refine ⟨_, (pss_cons (ps_set (i := 1) nd rfl (Or.inl rfl) (pe_ix (kIx (K := K) (w := w)) (pv 0) pe_int (fun _ _ => rfl)))
      (pss_cons (ps_if (pt_cmpR (kEq (K := K) hu) (pv 1) pe_str rfl) (pss_one (ps_ret (pe_tup (pa_cons (pe_ix (kIx (K := K) (w := w)) (pe_glob (v := .ref _) rfl m_SIGN_ROWS rfl) (pe_ix (kIx (K := K) (w := w)) (pv 0) pe_int (fun _ _ => rfl)) (fun _ _ => rfl)) pa_nil)))) pss_nil)
      (pss_cons (ps_if (pt_cmpR (kEq (K := K) hu) (pv 1) pe_str rfl) (pss_one (ps_ret (pe_tup (pa_cons (pe_ix (kIx (K := K) (w := w)) (pv 0) pe_int (fun _ _ => rfl)) pa_nil)))) pss_nil)
      (pss_cons (ps_if (pt_cmpR (kEq (K := K) hu) (pv 1) pe_str rfl) (pss_one (ps_ret (pe_tup (pa_cons pe_str pa_nil)))) pss_nil)
      (pss_one (ps_ret (pe_tup (pa_cons pe_str (pa_cons (pe_ix (kIx (K := K) (w := w)) (pv 0) pe_int (fun _ _ => rfl)) (pa_cons (pe_callB (k_len (K := K)) rfl B.len_ bt_len (pa_cons (pe_ix (kIx (K := K) (w := w)) (pv 0) pe_int (fun _ _ => rfl)) pa_nil)) pa_nil)))))))))), ?_⟩
  cases hs
  case two j x y hj =>
    refine ⟨_, rfl, .inr (.inl ⟨a, _, 0, _, rfl, rfl, SqT.of ha, rfl, ?_⟩)⟩
    refine ⟨_, rfl, .inl ⟨rfl, _, rfl, ifT (by decide) ?_⟩⟩
    exact ⟨_, rfl, .inr (.inl ⟨a, _, 1, _, rfl, rfl, SqT.of ha, rfl, .inr (.inr (.inr ⟨_, _, SR, _, rfl, rfl, TD, SR_at hj, one1, fun r hr0 => q r _ (same_new hr0 _) upd_same⟩))⟩)⟩
  case one j x hj =>
    refine ⟨_, rfl, .inr (.inl ⟨a, _, 0, _, rfl, rfl, SqT.of ha, rfl, ?_⟩)⟩
    refine ⟨_, rfl, .inl ⟨rfl, _, rfl, ifF (by decide) ⟨_, rfl, .inl ⟨rfl, _, rfl, ifT (by decide) ?_⟩⟩⟩⟩
    exact ⟨_, rfl, .inr (.inl ⟨a, _, 1, _, rfl, rfl, SqT.of ha, rfl, one1, fun r hr0 => q r _ (same_new hr0 _) upd_same⟩)⟩
  case do_ x y =>
    refine ⟨_, rfl, .inr (.inl ⟨a, _, 0, _, rfl, rfl, SqT.of ha, rfl, ?_⟩)⟩
    refine ⟨_, rfl, .inl ⟨rfl, _, rfl, ifF (by decide) ⟨_, rfl, .inl ⟨rfl, _, rfl, ifF (by decide) ⟨_, rfl, .inl ⟨rfl, _, rfl, ifT (by decide) ?_⟩⟩⟩⟩⟩⟩
    exact ⟨one1, fun r hr0 => q r _ (same_new hr0 _) upd_same⟩
  case call n c hn hc =>
    refine ⟨_, rfl, .inr (.inl ⟨a, _, 0, _, rfl, rfl, SqT.of ha, rfl, ?_⟩)⟩
    refine ⟨_, rfl, .inl ⟨rfl, _, rfl, ifF (by decide) ⟨_, rfl, .inl ⟨rfl, _, rfl, ifF (by decide) ⟨_, rfl, .inl ⟨rfl, _, rfl, ifF (by decide) ?_⟩⟩⟩⟩⟩⟩
    exact ⟨_, rfl, .inr (.inl ⟨a, _, 1, _, rfl, rfl, SqT.of ha, rfl, _, rfl, .inr (.inl ⟨a, _, 2, _, rfl, rfl, SqT.of ha, rfl, _, _, rfl, .inr ⟨_, SqT.of hc, rfl⟩, three3, fun r hr0 => q r _ (same_new hr0 _) upd_same⟩)⟩)⟩
  all_goals cases hl

def spBehind : Sp := fun vs H Q _ => ∃ (l : Addr) (us : List V) (rss : List (List Row)), vs = [.ref l] ∧ H l = some (.lst us) ∧ All2 (RowsL (fun _ => False) H) rss us ∧ rss.flatten.length ≤ 16000000 ∧
  ∀ r H' ws, Same H H' → H r = none → H' r = some (.lst ws) → All2 (RowAt H') rss.flatten ws → Q (.ref r) H'
theorem ok_one_behind_the_other (F : Fun K "one_behind_the_other" "one_behind_the_other" s_one_behind_the_other f fd) : FnOk P w K mg base CX0 1 f fd ["rows"] spBehind := by
  refine F.ok sc_one_behind_the_other (fun vs H Q E h => ?_) (fun cdv A outer s H vs Q E hr h => ?_)
  · obtain ⟨l, us, rss, rfl, _⟩ := h
    rfl
  obtain ⟨l, us, rss, rfl, hl, hus, hsz, q⟩ := h
  have nd := sc_one_behind_the_other.nd
  have zz : (16000000 : Nat) ≤ sizeLine := by decide
  refine ⟨_, (pss_cons (ps_set (i := 1) nd rfl (Or.inl rfl) (pe_lst pa_nil))
      (pss_cons (ps_cut (ps_for PassesOwn.never rfl (k_ilist (K := K) (pv 0)) (pg_name (i := 2) nd rfl (Or.inl rfl)) (pss_one (ps_expr (k_bm (K := K) PySem.F.plainAttrs_list PySem.F.slot_list_extend PySem.F.type_list_extend mt_extend (pv 1) (pa_cons (pv 2) pa_nil))))))
      (pss_one (ps_ret (pv 1))))), ?_⟩
  refine ⟨(by show 0 ≤ sizeLine; decide), fun fl hfl => ?_⟩
  refine ⟨fun σ H' => ∃ x ws, σ = [some (.ref l), some (.ref fl), x] ∧ Same H H' ∧ H' fl = some (.lst ws) ∧ All2 (RowAt H') rss.flatten ws, ?_, ?_⟩
  · refine ⟨_, rfl, l, rfl, ⟨us, SqL.of ((same_new hfl _) _ _ hl)⟩, for_list (xs := us) (fun i σ H' => ∃ x ws, σ = [some (.ref l), some (.ref fl), x] ∧ Same H H' ∧ H' fl = some (.lst ws) ∧ All2 (RowAt H') (rss.take i).flatten ws) ?_ ?_ ?_ ?_⟩
    · exact ⟨none, [], rfl, same_new hfl _, upd_same, .nil⟩
    · rintro i σ H' _ ⟨x, ws, rfl, sm, _⟩
      exact SqL.of (sm _ _ hl)
    · rintro i u σ H' hu2 ⟨x, ws, rfl, sm, hf, hw⟩
      obtain ⟨rs, hrs, l2, vs2, rfl, hl2, _, hr2⟩ := hus.get hu2
      have h1 := hw.len
      have h2 := hr2.len
      have h3 := flat_len rss (i + 1)
      rw [flat_take hrs, List.length_append] at h3
      refine ⟨_, rfl, .inl ⟨rfl, _, SqL.of hf⟩, _, rfl, fl, l2, _, _, rfl, rfl, hf, sm _ _ hl2, by omega, ?_⟩
      refine ⟨_, _, rfl, fun b o e => by rw [upd_ne (ne_of_none e hfl)]; exact sm _ _ e, upd_same, ?_⟩
      rw [flat_take hrs]
      have m : ∀ b xs, H' b = some (.tup xs) → (upd H' fl (.lst (ws ++ vs2))) b = some (.tup xs) := fun b xs e => by
        rw [upd_ne (ne_of e hf (by intro z; cases z))]; exact e
      exact (hw.imp fun a b h => h.mono m).app (hr2.imp fun a b h => (h.mono (tups_of sm)).mono m)
    · rintro σ H' ⟨x, ws, rfl, sm, hf, hw⟩
      refine ⟨_, _, rfl, sm, hf, ?_⟩
      rw [List.take_of_length_le (by rw [hus.len]; exact Nat.le_refl _)] at hw
      exact hw
  rintro σ H' ⟨x, ws, rfl, sm, hf, hw⟩
  exact ⟨_, rfl, q fl H' ws sm hfl hf hw⟩

def spIf : Sp := fun vs H Q _ => ∃ (c a b : Addr) (cs as bs : List V) (rc ra rb : List Row), vs = [.ref c, .ref a, .ref b] ∧ H c = some (.lst cs) ∧ H a = some (.lst as) ∧ H b = some (.lst bs) ∧
  All2 (RowAt H) rc cs ∧ All2 (RowAt H) ra as ∧ All2 (RowAt H) rb bs ∧ rc.length + ra.length + rb.length ≤ 16000000 ∧
  ∀ r H' ws, Same H H' → H r = none → H' r = some (.lst ws) → All2 (RowAt H') (rowsOf 0 .ite [rc, ra, rb]) ws → Q (.ref r) H'
theorem ok_rows_of_if (F : Fun K "rows_of_if" "rows_of_if" s_rows_of_if f fd) (B : BV.NoG mg) : FnOk P w K mg base CX0 1 f fd ["asked", "chosen", "other"] spIf := by
  refine F.ok sc_rows_of_if (fun vs H Q E h => ?_) (fun cdv A outer s H vs Q E hr h => ?_)
  · obtain ⟨c, a, b, cs, as, bs, rc, ra, rb, rfl, _⟩ := h
    rfl
  obtain ⟨c, a, b, cs, as, bs, rc, ra, rb, rfl, hc, ha, hb, h1, h2, h3, hsz, q⟩ := h
  have nd := sc_rows_of_if.nd
  have zz : (16000000 : Nat) + 10 ≤ sizeLine := by decide
  have l1 := h1.len
  have l2 := h2.len
  have l3 := h3.len
  refine ⟨_, (pss_one (ps_ret (pe_op uAdd (pe_op uAdd (pe_op uAdd (pe_op uAdd (pv 0) (pe_lst (pa_cons (pe_tup (pa_cons pe_str (pa_cons (pe_op uAdd (pe_callB (k_len (K := K)) rfl B.len_ bt_len (pa_cons (pv 1) pa_nil)) pe_int) pa_nil))) pa_nil))) (pv 1)) (pe_lst (pa_cons (pe_tup (pa_cons pe_str (pa_cons (pe_callB (k_len (K := K)) rfl B.len_ bt_len (pa_cons (pv 2) pa_nil)) pa_nil))) pa_nil))) (pv 2)))), ?_⟩
  refine ⟨_, rfl, _, rfl, _, _, rfl, .inl ⟨_, SqL.of ha, rfl⟩, .inl ⟨_, _, rfl, rfl, two2, fun p1 hp1 => ⟨one1, fun k1 hk1 => ?_⟩⟩⟩
  have s1 := (same_new hp1 (.tup [.str "unless", .int ((as.length : Nat) + 1)])).trans (same_new hk1 (.lst [.ref p1]))
  have e1 : (upd (upd H p1 (.tup [.str "unless", .int ((as.length : Nat) + 1)])) k1 (.lst [.ref p1])) p1 = some (.tup [.str "unless", .int ((as.length : Nat) + 1)]) := (same_new hk1 _) _ _ upd_same
  have e2 : (upd (upd H p1 (.tup [.str "unless", .int ((as.length : Nat) + 1)])) k1 (.lst [.ref p1])) k1 = some (.lst [.ref p1]) := upd_same
  generalize upd (upd H p1 (.tup [.str "unless", .int ((as.length : Nat) + 1)])) k1 (.lst [.ref p1]) = H1 at s1 e1 e2 ⊢
  refine .inr (.inr ⟨c, k1, _, _, rfl, rfl, s1 _ _ hc, e2, by simp only [List.length_cons, List.length_nil]; omega, fun k2 hk2 => ?_⟩)
  have s2 := same_new hk2 (.lst (cs ++ [.ref p1]))
  have e3 : (upd H1 k2 (.lst (cs ++ [.ref p1]))) k2 = some (.lst (cs ++ [.ref p1])) := upd_same
  generalize upd H1 k2 (.lst (cs ++ [.ref p1])) = H2 at s2 e3 ⊢
  have s12 := s1.trans s2
  refine ⟨_, rfl, .inr (.inr ⟨k2, a, _, _, rfl, rfl, e3, s12 _ _ ha, by simp only [List.length_append, List.length_cons, List.length_nil]; omega, fun k3 hk3 => ?_⟩)⟩
  have s3 := same_new hk3 (.lst (cs ++ [.ref p1] ++ as))
  have e4 : (upd H2 k3 (.lst (cs ++ [.ref p1] ++ as))) k3 = some (.lst (cs ++ [.ref p1] ++ as)) := upd_same
  generalize upd H2 k3 (.lst (cs ++ [.ref p1] ++ as)) = H3 at s3 e4 ⊢
  have s13 := s12.trans s3
  refine ⟨_, rfl, _, _, rfl, .inl ⟨_, SqL.of (s13 _ _ hb), rfl⟩, two2, fun p2 hp2 => ⟨one1, fun k4 hk4 => ?_⟩⟩
  have s4 := (same_new hp2 (.tup [.str "skip", .int (bs.length : Nat)])).trans (same_new hk4 (.lst [.ref p2]))
  have e5 : (upd (upd H3 p2 (.tup [.str "skip", .int (bs.length : Nat)])) k4 (.lst [.ref p2])) p2 = some (.tup [.str "skip", .int (bs.length : Nat)]) := (same_new hk4 _) _ _ upd_same
  have e6 : (upd (upd H3 p2 (.tup [.str "skip", .int (bs.length : Nat)])) k4 (.lst [.ref p2])) k4 = some (.lst [.ref p2]) := upd_same
  generalize upd (upd H3 p2 (.tup [.str "skip", .int (bs.length : Nat)])) k4 (.lst [.ref p2]) = H4 at s4 e5 e6 ⊢
  have s14 := s13.trans s4
  refine .inr (.inr ⟨k3, k4, _, _, rfl, rfl, s4 _ _ e4, e6, by simp only [List.length_append, List.length_cons, List.length_nil]; omega, fun k5 hk5 => ?_⟩)
  have s5 := same_new hk5 (.lst (cs ++ [.ref p1] ++ as ++ [.ref p2]))
  have e7 : (upd H4 k5 (.lst (cs ++ [.ref p1] ++ as ++ [.ref p2]))) k5 = some (.lst (cs ++ [.ref p1] ++ as ++ [.ref p2])) := upd_same
  generalize upd H4 k5 (.lst (cs ++ [.ref p1] ++ as ++ [.ref p2])) = H5 at s5 e7 ⊢
  have s15 := s14.trans s5
  refine ⟨_, rfl, .inr (.inr ⟨k5, b, _, _, rfl, rfl, e7, s15 _ _ hb, by simp only [List.length_append, List.length_cons, List.length_nil]; omega, fun k6 hk6 => ?_⟩)⟩
  have s6 := same_new hk6 (.lst (cs ++ [.ref p1] ++ as ++ [.ref p2] ++ bs))
  have s16 := s15.trans s6
  refine q k6 _ _ s16 (s15.free hk6) upd_same ?_
  have m := tups_of s16
  have f1 : RowAt (upd H5 k6 (.lst (cs ++ [.ref p1] ++ as ++ [.ref p2] ++ bs))) [.str "unless", .int ((ra.length : Nat) + 1)] (.ref p1) := ⟨p1, rfl, by rw [l2]; exact s6 _ _ (s5 _ _ (s4 _ _ (s3 _ _ (s2 _ _ e1))))⟩
  have f2 : RowAt (upd H5 k6 (.lst (cs ++ [.ref p1] ++ as ++ [.ref p2] ++ bs))) [.str "skip", .int (rb.length : Nat)] (.ref p2) := ⟨p2, rfl, by rw [l3]; exact s6 _ _ (s5 _ _ e5)⟩
  exact ((((h1.imp fun _ _ h => h.mono m).app (.cons f1 .nil)).app (h2.imp fun _ _ h => h.mono m)).app (.cons f2 .nil)).app (h3.imp fun _ _ h => h.mono m)
end
end CP
set_option maxHeartbeats 4000000
namespace CP
open PySem L2 BV
seal PE PT PW PA PS PSs PTs PI PG PGs PO
/-- a numbered part: its tuple stands on H', the counted term on H -/
def NH (S : AS) (H H' : Hp) (x : Pt × Int) (v : V) : Prop := ∃ r cv, v = .ref r ∧ H' r = some (.tup [cv, .int x.2]) ∧ CAt S H x.1 cv
section
variable {P : Program} {w : World} {K : PySem.W.Frag} {mg : Str → Option Value} {base : Heap} {f : Addr} {fd : FuncData} {f_built_up f_counted f_numbered_parts f_rows_with f_rows_of_if f_one_behind_the_other f_last_row f_rows_of_counted : Addr} {d_built_up d_counted d_numbered_parts d_rows_with d_rows_of_if d_one_behind_the_other d_last_row d_rows_of_counted : FuncData}
theorem ok_numbered_parts (F : Fun K "numbered_parts" "numbered_parts" s_numbered_parts f fd) : FnOk P w K mg base CX0 2 f fd ["node"] (spP rTr) := by
  refine F.ok sc_numbered_parts (fun vs H Q E h => ?_) (fun cdv A outer s H vs Q E hr h => ?_)
  · obtain ⟨S, t, v, rfl, _⟩ := h
    rfl
  obtain ⟨S, ⟨t, fi⟩, v, rfl, ⟨p, cv, rfl, hp, hc⟩, hsz, q⟩ := h
  have nd := sc_numbered_parts.nd
  have hu := hr.units0
  have zz : (400001 : Nat) ≤ sizeLine := by decide
  obtain ⟨pc, tv, c, us, rfl, hpc, ht, hcl, hnc, hus⟩ := CAt.open hc
  obtain ⟨pt, xs, vs, rfl, hpt, hs, hk⟩ := PAt.open ht
  obtain ⟨rest, hx⟩ := hs.head
  have hat : atI xs ((0 : Nat) : Int) = some (.str (form t.lab)) := atI_nat (by rw [hx]; rfl)
  refine ⟨_, (pss_cons (ps_set (i := 1) nd rfl (Or.inl rfl) (pe_ix (kIx (K := K) (w := w)) (pe_ix (kIx (K := K) (w := w)) (pv 0) pe_int (fun _ _ => rfl)) pe_int (fun _ _ => rfl)))
      (pss_cons (ps_set (i := 2) nd rfl (Or.inl rfl) (pe_ix (kIx (K := K) (w := w)) (pv 0) pe_int (fun _ _ => rfl)))
      (pss_cons (ps_if (pt_cmpR (kEq (K := K) hu) (pe_ix (kIx (K := K) (w := w)) (pv 1) pe_int (fun _ _ => rfl)) pe_str rfl) (pss_one (ps_ret (pe_lst pa_nil))) pss_nil)
      (pss_cons (ps_set (i := 3) nd rfl (Or.inl rfl) (pe_lst pa_nil))
      (pss_cons (ps_cut (ps_for PassesOwn.never rfl (k_ilist (K := K) (pe_ix (kIx (K := K) (w := w)) (pe_ix (kIx (K := K) (w := w)) (pv 0) pe_int (fun _ _ => rfl)) pe_int (fun _ _ => rfl))) (pg_name (i := 4) nd rfl (Or.inl rfl)) (pss_cons (ps_expr (k_bm (K := K) PySem.F.plainAttrs_list PySem.F.slot_list_append PySem.F.type_list_append mt_append (pv 3) (pa_cons (pe_tup (pa_cons (pv 4) (pa_cons (pv 2) pa_nil))) pa_nil)))
      (pss_one (ps_aug (i := 2) nd rfl (Or.inl rfl) (pe_ix (kIx (K := K) (w := w)) (pv 4) pe_int (fun _ _ => rfl)) ip_add)))))
      (pss_one (ps_ret (pv 3)))))))), ?_⟩
  refine ⟨_, rfl, .inr (.inl ⟨p, _, 0, _, rfl, rfl, SqT.of hp, rfl, .inr (.inl ⟨pc, _, 0, _, rfl, rfl, SqT.of hpc, rfl, ?_⟩)⟩)⟩
  refine ⟨_, rfl, .inr (.inl ⟨p, _, 1, _, rfl, rfl, SqT.of hp, rfl, ?_⟩)⟩
  refine ⟨_, rfl, .inr (.inl ⟨pt, _, 0, _, rfl, rfl, SqT.of hpt, hat, .inl ⟨rfl, _, rfl, ?_⟩⟩)⟩
  rw [fn_dec]
  have hkk : rTr.kids (t, fi) = if Pt.isFn t.lab then [] else nums t.kids fi := rfl
  cases hb : Pt.isFn t.lab
  · refine ifF Bool.false_ne_true ?_
    rw [hb] at hkk
    have hkk' : rTr.kids (t, fi) = nums t.kids fi := hkk
    have hkl : (nums t.kids fi).length ≤ 400000 := by
      have h1 := rTr.kids_le (t, fi)
      rw [hkk'] at h1
      exact Nat.le_trans h1 hsz
    have hnl := nums_len t.kids fi
    have hul := hus.len
    refine ⟨(by show 0 ≤ sizeLine; decide), fun fl hfl => ?_⟩
    refine ⟨fun σ H' => ∃ x y ws, σ = [some (.ref p), some (.ref pt), x, some (.ref fl), y] ∧ Same H H' ∧ H' fl = some (.lst ws) ∧ All2 (NH S H H') (nums t.kids fi) ws, ?_, ?_⟩
    · refine ⟨_, rfl, .inr (.inl ⟨p, _, 0, _, rfl, rfl, SqT.of ((same_new hfl _) _ _ hp), rfl, .inr (.inl ⟨pc, _, 2, _, rfl, rfl, SqT.of ((same_new hfl _) _ _ hpc), rfl, c, rfl, ⟨us, SqL.of ((same_new hfl _) _ _ hcl)⟩,
        for_list (xs := us) (fun i σ H' => ∃ y ws, σ = [some (.ref p), some (.ref pt), some (.int (fi + (((t.kids.take i).map Pt.fns).sum : Nat))), some (.ref fl), y] ∧ Same H H' ∧ H' fl = some (.lst ws) ∧ All2 (NH S H H') ((nums t.kids fi).take i) ws) ?_ ?_ ?_ ?_⟩)⟩)⟩
      · refine ⟨none, [], ?_, same_new hfl _, upd_same, .nil⟩
        show [some (V.ref p), some (.ref pt), some (.int fi), some (.ref fl), none] = _
        simp
      · rintro i σ H' _ ⟨y, ws, rfl, sm, _⟩
        exact SqL.of (sm _ _ hcl)
      · rintro i u σ H' hu2 ⟨y, ws, rfl, sm, hf, hw⟩
        obtain ⟨k, hk2, hck⟩ := hus.get hu2
        have hni := nums_at t.kids fi i
        rw [hk2] at hni
        have hni : (nums t.kids fi)[i]? = some (k, fi + (((t.kids.take i).map Pt.fns).sum : Nat)) := hni
        obtain ⟨pk, tvk, ck, usk, rfl, hpk, _⟩ := CAt.open hck
        have hwl := hw.len
        rw [List.length_take] at hwl
        have hi2 : i < us.length := (List.getElem?_eq_some_iff.mp hu2).1
        refine ⟨_, rfl, .inl ⟨rfl, _, SqL.of hf⟩, _, rfl, _, rfl, two2, fun r hr0 => ?_⟩
        have s1 := sm.trans (same_new hr0 (.tup [.ref pk, .int (fi + (((t.kids.take i).map Pt.fns).sum : Nat))]))
        have hf1 : (upd H' r (.tup [.ref pk, .int (fi + (((t.kids.take i).map Pt.fns).sum : Nat))])) fl = some (.lst ws) := (same_new hr0 _) _ _ hf
        refine ⟨fl, _, _, rfl, rfl, hf1, by omega, ?_⟩
        have nrf : r ≠ fl := fun e => by subst e; rw [hf] at hr0; cases hr0
        have s2 : Same H (upd (upd H' r (.tup [.ref pk, .int (fi + (((t.kids.take i).map Pt.fns).sum : Nat))])) fl (.lst (ws ++ [.ref r]))) := fun b o e => by rw [upd_ne (ne_of_none e hfl)]; exact s1 _ _ e
        have hr2 : (upd (upd H' r (.tup [.ref pk, .int (fi + (((t.kids.take i).map Pt.fns).sum : Nat))])) fl (.lst (ws ++ [.ref r]))) r = some (.tup [.ref pk, .int (fi + (((t.kids.take i).map Pt.fns).sum : Nat))]) := by rw [upd_ne nrf]; exact upd_same
        have m : ∀ b xs, H' b = some (.tup xs) → (upd (upd H' r (.tup [.ref pk, .int (fi + (((t.kids.take i).map Pt.fns).sum : Nat))])) fl (.lst (ws ++ [.ref r]))) b = some (.tup xs) := fun b xs e => by
          rw [upd_ne (ne_of e hf (by intro z; cases z))]; exact (same_new hr0 _) _ _ e
        have hw2 : All2 (NH S H (upd (upd H' r (.tup [.ref pk, .int (fi + (((t.kids.take i).map Pt.fns).sum : Nat))])) fl (.lst (ws ++ [.ref r])))) ((nums t.kids fi).take (i + 1)) (ws ++ [.ref r]) := by
          rw [BV.take_one hni]
          refine All2.app (hw.imp fun a b h => ?_) (.cons ⟨r, .ref pk, rfl, hr2, hck⟩ .nil)
          obtain ⟨r3, cv3, e3, h3, h4⟩ := h
          exact ⟨r3, cv3, e3, m _ _ h3, h4⟩
        have hf2 : (upd (upd H' r (.tup [.ref pk, .int (fi + (((t.kids.take i).map Pt.fns).sum : Nat))])) fl (.lst (ws ++ [.ref r]))) fl = some (.lst (ws ++ [.ref r])) := upd_same
        generalize upd (upd H' r (.tup [.ref pk, .int (fi + (((t.kids.take i).map Pt.fns).sum : Nat))])) fl (.lst (ws ++ [.ref r])) = H2 at s2 hw2 hf2 ⊢
        refine ⟨_, rfl, _, rfl, .inr (.inl ⟨pk, _, 1, _, rfl, rfl, SqT.of (s2 _ _ hpk), rfl, _, _, rfl, rfl, some (.ref pk), ws ++ [.ref r], ?_, s2, hf2, hw2⟩)⟩
        have e5 : fi + (((t.kids.take (i + 1)).map Pt.fns).sum : Nat) = fi + (((t.kids.take i).map Pt.fns).sum : Nat) + (k.fns : Nat) := by
          rw [BV.take_one hk2, List.map_append, List.sum_append]
          simp only [List.map_cons, List.map_nil, List.sum_cons, List.sum_nil]
          omega
        rw [e5]
        rfl
      · rintro σ H' ⟨y, ws, rfl, sm, hf, hw⟩
        refine ⟨_, _, _, rfl, sm, hf, ?_⟩
        rw [List.take_of_length_le (by rw [hnl, hul]; exact Nat.le_refl _)] at hw
        exact hw
    rintro σ H' ⟨x, y, ws, rfl, sm, hf, hw⟩
    refine ⟨_, rfl, q fl H' ws sm hfl hf ?_⟩
    rw [hkk']
    refine hw.imp fun a b h => ?_
    obtain ⟨r3, cv3, e3, h3, h4⟩ := h
    exact ⟨r3, cv3, e3, h3, CAt.mono (.of sm) _ _ h4⟩
  · refine ifT rfl ?_
    rw [hb] at hkk
    have hkk' : rTr.kids (t, fi) = [] := hkk
    refine ⟨(by show 0 ≤ sizeLine; decide), fun fl hfl => q fl _ [] (same_new hfl _) hfl upd_same ?_⟩
    rw [hkk']
    exact .nil

theorem ok_rows_with (F : Fun K "rows_with" "rows_with" s_rows_with f fd) (B : BV.NoG mg)
    (G_rows_of_if : FnOk P w K mg base CX0 1 f_rows_of_if d_rows_of_if ["asked", "chosen", "other"] spIf) (b_rows_of_if : Binds K d_rows_of_if ["asked", "chosen", "other"] []) (k_rows_of_if : PySem.W.keepIn K (.ref f_rows_of_if) = true) (m_rows_of_if : mg "rows_of_if" = some (.ref f_rows_of_if))
    (G_one_behind_the_other : FnOk P w K mg base CX0 1 f_one_behind_the_other d_one_behind_the_other ["rows"] spBehind) (b_one_behind_the_other : Binds K d_one_behind_the_other ["rows"] []) (k_one_behind_the_other : PySem.W.keepIn K (.ref f_one_behind_the_other) = true) (m_one_behind_the_other : mg "one_behind_the_other" = some (.ref f_one_behind_the_other))
    (G_last_row : FnOk P w K mg base CX0 1 f_last_row d_last_row ["term"] spLast) (b_last_row : Binds K d_last_row ["term"] []) (k_last_row : PySem.W.keepIn K (.ref f_last_row) = true) (m_last_row : mg "last_row" = some (.ref f_last_row)) :
    FnOk P w K mg base CX0 2 f fd ["node", "rows"] (spM rTr) := by
  refine F.ok sc_rows_with (fun vs H Q E h => ?_) (fun cdv A outer s H vs Q E hr h => ?_)
  · obtain ⟨S, t, v, l, us, rfl, _⟩ := h
    rfl
  obtain ⟨S, ⟨t, fi⟩, v, l, us, rfl, ⟨p, cv, rfl, hp, hc⟩, hsz, hl, hnl, hSo, hus, q⟩ := h
  have nd := sc_rows_with.nd
  have hu := hr.units0
  have zz : (16000000 : Nat) + 10 ≤ sizeLine := by decide
  obtain ⟨pc, tv, c, us0, rfl, hpc, ht, _⟩ := CAt.open hc
  have hsz' : rsize t ≤ 400000 := hsz
  have hrl := rows_len t tv fi ht
  have fresh : ∀ (H' : Hp) (r : Addr), Same H H' → H' r = none → ¬ S r := fun H' r sm h z => hSo r z (sm.free h)
  have hne : ∀ a, S a → H a ≠ none := hSo
  cases t with
  | node lab ks =>
  obtain ⟨pt, xs, vs, rfl, hpt, hs, hk⟩ := PAt.open ht
  have hk' : All2 (PAt H) ks vs := hk
  have hkl := hk'.len
  have hrows : Pt.isFn lab = false → All2 (RowsL S H) (rowss ks fi) us := fun hb => by
    have e : rTr.kids (.node lab ks, fi) = nums ks fi := by show (if Pt.isFn lab then [] else nums ks fi) = _; rw [hb]; rfl
    rw [e] at hus
    rw [rowss_eq]
    exact All2.mapL hus
  have e0 : rows (.node lab ks) fi = rowsOf fi lab (rowss ks fi) := rfl
  rw [e0] at hrl
  have q' : ∀ r H' ws, Same H H' → H r = none → H' r = some (.lst ws) → All2 (RowAt H') (rowsOf fi lab (rowss ks fi)) ws → Q (.ref r) H' := fun r H' ws sm hn h1 h2 => q (.ref r) H' sm ⟨r, ws, rfl, h1, fun z => hSo r z hn, h2⟩
  clear q
  refine ⟨_, (pss_cons (ps_set (i := 2) nd rfl (Or.inl rfl) (pe_ix (kIx (K := K) (w := w)) (pe_ix (kIx (K := K) (w := w)) (pv 0) pe_int (fun _ _ => rfl)) pe_int (fun _ _ => rfl)))
      (pss_cons (ps_set (i := 3) nd rfl (Or.inl rfl) (pe_ix (kIx (K := K) (w := w)) (pv 2) pe_int (fun _ _ => rfl)))
      (pss_cons (ps_if (pt_cmpR (kIn (K := K) (w := w)) (pv 3) (pe_tup (pa_cons pe_str (pa_cons pe_str pa_nil))) rfl) (pss_one (ps_ret (pe_lst (pa_cons (pe_tup (pa_cons pe_str (pa_cons (pe_ix (kIx (K := K) (w := w)) (pv 2) pe_int (fun _ _ => rfl)) pa_nil))) pa_nil)))) pss_nil)
      (pss_cons (ps_if (pt_cmpR (kEq (K := K) hu) (pv 3) pe_str rfl) (pss_one (ps_ret (pe_lst (pa_cons (pe_tup (pa_cons pe_str pa_nil)) pa_nil)))) pss_nil)
      (pss_cons (ps_if (pt_cmpR (kEq (K := K) hu) (pv 3) pe_str rfl) (pss_one (ps_ret (pe_lst (pa_cons (pe_tup (pa_cons pe_str (pa_cons (pe_ix (kIx (K := K) (w := w)) (pv 2) pe_int (fun _ _ => rfl)) pa_nil))) pa_nil)))) pss_nil)
      (pss_cons (ps_if (pt_cmpR (kEq (K := K) hu) (pv 3) pe_str rfl) (pss_one (ps_ret (pe_call G_rows_of_if (hr.mono (by first | decide | omega)) rfl m_rows_of_if k_rows_of_if b_rows_of_if .nil pass0 (pa_cons (pe_ix (kIx (K := K) (w := w)) (pv 1) pe_int (fun _ _ => rfl)) (pa_cons (pe_ix (kIx (K := K) (w := w)) (pv 1) pe_int (fun _ _ => rfl)) (pa_cons (pe_ix (kIx (K := K) (w := w)) (pv 1) pe_int (fun _ _ => rfl)) pa_nil)))))) pss_nil)
      (pss_cons (ps_if (pt_cmpR (kEq (K := K) hu) (pv 3) pe_str rfl) (pss_one (ps_ret (pe_op uAdd (pe_op uAdd (pe_ix (kIx (K := K) (w := w)) (pv 1) pe_int (fun _ _ => rfl)) (pe_lst (pa_cons (pe_tup (pa_cons pe_str (pa_cons (pe_ix (kIx (K := K) (w := w)) (pv 2) pe_int (fun _ _ => rfl)) pa_nil))) pa_nil))) (pe_ix (kIx (K := K) (w := w)) (pv 1) pe_int (fun _ _ => rfl))))) pss_nil)
      (pss_cons (ps_if (pt_cmpR (kEq (K := K) hu) (pv 3) pe_str rfl) (pss_one (ps_ret (pe_op uAdd (pe_comp (CompScope.mk (N := ["node", "rows", "term", "form"]) (sc := defScope s_rows_with) (caps := []) (ns := []) (by decide +kernel) rfl (by decide +kernel) rfl (by decide +kernel) rfl (by decide +kernel) (by decide +kernel)) rfl rfl rfl (k_itup (K := K) (pe_ix (kIx (K := K) (w := w)) (pv 2) pe_int (fun _ _ => rfl))) (fun _ _ _ _ _ => pts_nil) (fun _ _ _ _ _ => (pe_tup (pa_cons pe_str (pa_cons (pv 0) pa_nil))))) (pe_lst (pa_cons (pe_tup (pa_cons pe_str (pa_cons (pe_ix (kIx (K := K) (w := w)) (pv 0) pe_int (fun _ _ => rfl)) (pa_cons (pe_callB (k_len (K := K)) rfl B.len_ bt_len (pa_cons (pe_ix (kIx (K := K) (w := w)) (pv 2) pe_int (fun _ _ => rfl)) pa_nil)) pa_nil)))) pa_nil))))) pss_nil)
      (pss_one (ps_ret (pe_op uAdd (pe_call G_one_behind_the_other (hr.mono (by first | decide | omega)) rfl m_one_behind_the_other k_one_behind_the_other b_one_behind_the_other .nil pass0 (pa_cons (pv 1) pa_nil)) (pe_lst (pa_cons (pe_call G_last_row (hr.mono (by first | decide | omega)) rfl m_last_row k_last_row b_last_row .nil pass0 (pa_cons (pv 2) pa_nil)) pa_nil))))))))))))), ?_⟩
  refine ⟨_, rfl, .inr (.inl ⟨p, _, 0, _, rfl, rfl, SqT.of hp, rfl, .inr (.inl ⟨pc, _, 0, _, rfl, rfl, SqT.of hpc, rfl, ?_⟩)⟩)⟩
  obtain ⟨rest, hx⟩ := hs.head
  have hat : atI xs ((0 : Nat) : Int) = some (.str (form lab)) := atI_nat (by rw [hx]; rfl)
  refine ⟨_, rfl, .inr (.inl ⟨pt, _, 0, _, rfl, rfl, SqT.of hpt, hat, ?_⟩)⟩
  refine ⟨_, rfl, two2, fun pq hpq => .inr (.inl ⟨pq, _, rfl, .inr (SqT.of upd_same), rfl, rfl, _, rfl, ?_⟩)⟩
  have s0 := same_new hpq (.tup [.str "number", .str "truth"])
  show if inV (.str (form lab)) [.str "number", .str "truth"] = true then _ else _
  have hpt0 := s0 _ _ hpt
  have hs0 := hs.mono (tups_of s0)
  have hl0 := s0 _ _ hl
  have hp0 := s0 _ _ hp
  generalize upd H pq (.tup [.str "number", .str "truth"]) = H0 at s0 hpt0 hs0 hl0 hp0 ⊢
  have one_row : ∀ (H' : Hp) (pr lr : Addr) (row : Row), Same H0 H' → H' pr = some (.tup row) → H' lr = some (.lst [.ref pr]) → H lr = none → rowsOf fi lab (rowss ks fi) = [row] → Q (.ref lr) H' := fun H' pr lr row sm h1 h2 h3 h4 =>
    q' lr H' [.ref pr] (s0.trans sm) h3 h2 (by rw [h4]; exact .cons ⟨pr, rfl, h1⟩ .nil)
  cases hs0
  case num i =>
    refine ifT rfl ?_
    exact ⟨_, rfl, .inr (.inl ⟨pt, _, 1, _, rfl, rfl, SqT.of hpt0, rfl, two2, fun r hr0 => ⟨one1, fun r2 hr2 => one_row _ r r2 _ ((same_new hr0 _).trans (same_new hr2 _)) ((same_new hr2 _) _ _ upd_same) upd_same (s0.free ((same_new hr0 _).free hr2)) rfl⟩⟩)⟩
  case tru b =>
    refine ifT rfl ?_
    exact ⟨_, rfl, .inr (.inl ⟨pt, _, 1, _, rfl, rfl, SqT.of hpt0, rfl, two2, fun r hr0 => ⟨one1, fun r2 hr2 => one_row _ r r2 _ ((same_new hr0 _).trans (same_new hr2 _)) ((same_new hr2 _) _ _ upd_same) upd_same (s0.free ((same_new hr0 _).free hr2)) rfl⟩⟩)⟩
  case non =>
    refine ifF Bool.false_ne_true ⟨_, rfl, .inl ⟨rfl, _, rfl, ifT rfl ?_⟩⟩
    exact ⟨one1, fun r hr0 => ⟨one1, fun r2 hr2 => one_row _ r r2 _ ((same_new hr0 _).trans (same_new hr2 _)) ((same_new hr2 _) _ _ upd_same) upd_same (s0.free ((same_new hr0 _).free hr2)) rfl⟩⟩
  case slot k =>
    refine ifF Bool.false_ne_true ⟨_, rfl, .inl ⟨rfl, _, rfl, ifF Bool.false_ne_true ⟨_, rfl, .inl ⟨rfl, _, rfl, ifT rfl ?_⟩⟩⟩⟩
    exact ⟨_, rfl, .inr (.inl ⟨pt, _, 1, _, rfl, rfl, SqT.of hpt0, rfl, two2, fun r hr0 => ⟨one1, fun r2 hr2 => one_row _ r r2 _ ((same_new hr0 _).trans (same_new hr2 _)) ((same_new hr2 _) _ _ upd_same) upd_same (s0.free ((same_new hr0 _).free hr2)) rfl⟩⟩)⟩
  case ite a b c =>
    refine ifF Bool.false_ne_true ⟨_, rfl, .inl ⟨rfl, _, rfl, ifF Bool.false_ne_true ⟨_, rfl, .inl ⟨rfl, _, rfl, ifF Bool.false_ne_true ⟨_, rfl, .inl ⟨rfl, _, rfl, ifT rfl ?_⟩⟩⟩⟩⟩⟩
    have hr3 := hrows rfl
    rcases hk' with _ | ⟨_, hk'⟩
    rename_i ka ksa _
    rcases hk' with _ | ⟨_, hk'⟩
    rcases hk' with _ | ⟨_, hk'⟩
    cases hk'
    rename_i ka _ kb _ kc _
    rcases hr3 with _ | ⟨h1, hr3⟩
    rcases hr3 with _ | ⟨h2, hr3⟩
    rcases hr3 with _ | ⟨h3, hr3⟩
    cases hr3
    obtain ⟨l1, w1, rfl, hl1, _, r1⟩ := h1
    obtain ⟨l2, w2, rfl, hl2, _, r2⟩ := h2
    obtain ⟨l3, w3, rfl, hl3, _, r3⟩ := h3
    refine ⟨_, rfl, .inl ⟨l, _, 0, _, rfl, rfl, SqL.of hl0, rfl, _, rfl, .inl ⟨l, _, 1, _, rfl, rfl, SqL.of hl0, rfl, _, rfl, .inl ⟨l, _, 2, _, rfl, rfl, SqL.of hl0, rfl, ?_⟩⟩⟩⟩
    refine ⟨l1, l2, l3, w1, w2, w3, _, _, _, rfl, s0 _ _ hl1, s0 _ _ hl2, s0 _ _ hl3, r1.imp fun _ _ h => h.mono (tups_of s0), r2.imp fun _ _ h => h.mono (tups_of s0), r3.imp fun _ _ h => h.mono (tups_of s0), ?_, fun r H' ws sm hn h4 h5 => q' r H' ws (s0.trans sm) (s0.free hn) h4 h5⟩
    simp only [rowss, rowsOf, List.length_append] at hrl
    omega
  case let_ k a b _ =>
    refine ifF Bool.false_ne_true ⟨_, rfl, .inl ⟨rfl, _, rfl, ifF Bool.false_ne_true ⟨_, rfl, .inl ⟨rfl, _, rfl, ifF Bool.false_ne_true ⟨_, rfl, .inl ⟨rfl, _, rfl, ifF Bool.false_ne_true ⟨_, rfl, .inl ⟨rfl, _, rfl, ifT rfl ?_⟩⟩⟩⟩⟩⟩⟩⟩
    have hr3 := hrows rfl
    rcases hk' with _ | ⟨_, hk'⟩
    rcases hk' with _ | ⟨_, hk'⟩
    cases hk'
    rcases hr3 with _ | ⟨h1, hr3⟩
    rcases hr3 with _ | ⟨h2, hr3⟩
    cases hr3
    obtain ⟨l1, w1, rfl, hl1, _, r1⟩ := h1
    obtain ⟨l2, w2, rfl, hl2, _, r2⟩ := h2
    have e1 := r1.len
    have e2 := r2.len
    simp only [rowss, rowsOf, List.length_append, List.length_cons, List.length_nil] at hrl
    refine ⟨_, rfl, .inl ⟨l, _, 0, _, rfl, rfl, SqL.of hl0, rfl, _, rfl, .inr (.inl ⟨pt, _, 1, _, rfl, rfl, SqT.of hpt0, rfl, two2, fun pr hpr => ⟨one1, fun k1 hk1 => ?_⟩⟩)⟩⟩
    have s1 := (same_new hpr (.tup [.str "keep", .int k])).trans (same_new hk1 (.lst [.ref pr]))
    have g1 : (upd (upd H0 pr (.tup [.str "keep", .int k])) k1 (.lst [.ref pr])) pr = some (.tup [.str "keep", .int k]) := (same_new hk1 _) _ _ upd_same
    have g2 : (upd (upd H0 pr (.tup [.str "keep", .int k])) k1 (.lst [.ref pr])) k1 = some (.lst [.ref pr]) := upd_same
    generalize upd (upd H0 pr (.tup [.str "keep", .int k])) k1 (.lst [.ref pr]) = H1 at s1 g1 g2 ⊢
    refine .inr (.inr ⟨l1, k1, _, _, rfl, rfl, s1 _ _ (s0 _ _ hl1), g2, by simp only [List.length_cons, List.length_nil]; omega, fun k2 hk2 => ?_⟩)
    have s2 := same_new hk2 (.lst (w1 ++ [.ref pr]))
    have s02 := s0.trans (s1.trans s2)
    refine ⟨_, rfl, .inl ⟨l, _, 1, _, rfl, rfl, SqL.of (s2 _ _ (s1 _ _ hl0)), rfl, .inr (.inr ⟨k2, l2, _, _, rfl, rfl, upd_same, s02 _ _ hl2, by simp only [List.length_append, List.length_cons, List.length_nil]; omega, fun k3 hk3 => ?_⟩)⟩⟩
    have s3 := same_new hk3 (.lst (w1 ++ [.ref pr] ++ w2))
    have s03 := s02.trans s3
    refine q' k3 _ _ s03 (s02.free hk3) upd_same ?_
    exact ((r1.imp fun _ _ h => h.mono (tups_of s03)).app (.cons ⟨pr, rfl, s3 _ _ (s2 _ _ g1)⟩ .nil)).app (r2.imp fun _ _ h => h.mono (tups_of s03))
  case fn ts n a pq2 hts hpq2 _ =>
    refine ifF Bool.false_ne_true ⟨_, rfl, .inl ⟨rfl, _, rfl, ifF Bool.false_ne_true ⟨_, rfl, .inl ⟨rfl, _, rfl, ifF Bool.false_ne_true ⟨_, rfl, .inl ⟨rfl, _, rfl, ifF Bool.false_ne_true ⟨_, rfl, .inl ⟨rfl, _, rfl, ifF Bool.false_ne_true ⟨_, rfl, .inl ⟨rfl, _, rfl, ifT rfl ?_⟩⟩⟩⟩⟩⟩⟩⟩⟩⟩
    refine ⟨_, rfl, .inr (.inl ⟨pt, _, 1, _, rfl, rfl, SqT.of hpt0, rfl, pq2, rfl, ⟨_, SqT.of hpq2⟩, comp_tup (xs := ts.map V.int) (fun j ys H2 => Same H0 H2 ∧ All2 (RowAt H2) ((ts.map fun s => [V.str "load", V.int s]).take j) ys) ⟨Same.refl _, .nil⟩ ?_ ?_ ?_⟩)⟩
    · rintro i ys H2 hi ⟨sm, hy⟩
      refine ⟨SqT.of (sm _ _ hpq2), ?_⟩
      have := hy.len
      rw [List.length_take, List.length_map] at this
      omega
    · rintro i x ys H2 hx2 ⟨sm, hy⟩
      refine noTest ?_
      rw [List.getElem?_map] at hx2
      obtain ⟨z, hz, rfl⟩ := Option.map_eq_some_iff.mp hx2
      refine ⟨_, rfl, two2, fun r hr0 => ⟨sm.trans (same_new hr0 _), ?_⟩⟩
      have h3 : (ts.map fun s => [V.str "load", V.int s])[i]? = some [V.str "load", V.int z] := by rw [List.getElem?_map, hz]; rfl
      rw [BV.take_one h3]
      exact (hy.imp fun _ _ h => h.mono (tups_of (same_new hr0 _))).app (.cons ⟨r, rfl, upd_same⟩ .nil)
    · rintro ys H2 ⟨sm, hy⟩ r hr0
      rw [List.take_of_length_le (by rw [List.length_map, List.length_map]; exact Nat.le_refl _)] at hy
      have hyl := hy.len
      rw [List.length_map] at hyl
      have s1 := sm.trans (same_new hr0 (.lst ys))
      refine ⟨_, rfl, .inr (.inl ⟨p, _, 1, _, rfl, rfl, SqT.of (s1 _ _ hp0), rfl, _, rfl, .inr (.inl ⟨pt, _, 1, _, rfl, rfl, SqT.of (s1 _ _ hpt0), rfl, _, _, rfl, .inr ⟨_, SqT.of (s1 _ _ hpq2), rfl⟩, three3, fun pr hpr => ⟨one1, fun k1 hk1 => ?_⟩⟩)⟩)⟩
      rw [List.length_map] at hk1 ⊢
      have s2 := (same_new hpr (.tup [.str "close", .int fi, .int (ts.length : Nat)])).trans (same_new hk1 (.lst [.ref pr]))
      have g0 : (upd H2 r (.lst ys)) r = some (.lst ys) := upd_same
      have g1 : (upd (upd (upd H2 r (.lst ys)) pr (.tup [.str "close", .int fi, .int (ts.length : Nat)])) k1 (.lst [.ref pr])) pr = some (.tup [.str "close", .int fi, .int (ts.length : Nat)]) := (same_new hk1 _) _ _ upd_same
      refine .inr (.inr ⟨r, k1, _, _, rfl, rfl, s2 _ _ g0, upd_same, by simp only [List.length_cons, List.length_nil]; omega, fun k2 hk2 => ?_⟩)
      have s3 := same_new hk2 (.lst (ys ++ [.ref pr]))
      have s13 := (same_new hr0 (.lst ys)).trans (s2.trans s3)
      refine q' k2 _ _ (s0.trans (sm.trans s13)) (s0.free (s1.free (s2.free hk2))) upd_same ?_
      exact (hy.imp fun _ _ h => h.mono (tups_of s13)).app (.cons ⟨pr, rfl, s3 _ _ g1⟩ .nil)
  all_goals
    refine ifF Bool.false_ne_true ⟨_, rfl, .inl ⟨rfl, _, rfl, ifF Bool.false_ne_true ⟨_, rfl, .inl ⟨rfl, _, rfl, ifF Bool.false_ne_true ⟨_, rfl, .inl ⟨rfl, _, rfl, ifF Bool.false_ne_true ⟨_, rfl, .inl ⟨rfl, _, rfl, ifF Bool.false_ne_true ⟨_, rfl, .inl ⟨rfl, _, rfl, ifF Bool.false_ne_true ?_⟩⟩⟩⟩⟩⟩⟩⟩⟩⟩
    have hr3 := (hrows rfl).imp fun _ _ h => (h.wide (S' := fun _ => False) fun _ z => z.elim).mono (Kp.of s0)
    rw [rowsOf_last rfl, List.length_append] at hrl
    refine ⟨_, rfl, l, us, rowss ks fi, rfl, hl0, hr3, by omega, fun r H' ws sm hn h1 h2 => ?_⟩
    refine ⟨_, rfl, pt, _, _, _, rfl, sm _ _ hpt0, hs.mono (tups_of (s0.trans sm)), rfl, fun r2 H2 sm2 h3 => ⟨one1, fun k1 hk1 => ?_⟩⟩
    have s3 := same_new hk1 (.lst [.ref r2])
    have h2l := h2.len
    refine .inr (.inr ⟨r, k1, _, _, rfl, rfl, s3 _ _ (sm2 _ _ h1), upd_same, by simp only [List.length_cons, List.length_nil]; omega, fun k2 hk2 => ?_⟩)
    have s4 := sm2.trans (s3.trans (same_new hk2 (.lst (ws ++ [.ref r2]))))
    refine q' k2 _ _ (s0.trans (sm.trans s4)) (s0.free (sm.free (sm2.free (s3.free hk2)))) upd_same ?_
    rw [rowsOf_last rfl, rowss_len, hkl]
    exact (h2.imp fun _ _ h => h.mono (tups_of s4)).app (.cons ⟨r2, rfl, (same_new hk2 _) _ _ (s3 _ _ h3)⟩ .nil)

def spRC : Sp := fun vs H Q _ => ∃ t v fi, vs = [v, .int fi] ∧ CAt (fun _ => False) H t v ∧ t.size ≤ 400000 ∧ ∀ r H', Same H H' → RowsT H' (rows t fi) r → Q r H'
theorem ok_rows_of_counted (F : Fun K "rows_of_counted" "rows_of_counted" s_rows_of_counted f fd) (B : BV.NoG mg) (G_built_up : FnOk P w K mg base CX0 3 f_built_up d_built_up ["root", "parts_in", "made"] (BV.spBuilt P w K mg base)) (b_built_up : Binds K d_built_up ["root", "parts_in", "made"] []) (k_built_up : PySem.W.keepIn K (.ref f_built_up) = true) (m_built_up : mg "built_up" = some (.ref f_built_up))
    (G_numbered_parts : FnOk P w K mg base CX0 2 f_numbered_parts d_numbered_parts ["node"] (spP rTr)) (b_numbered_parts : Binds K d_numbered_parts ["node"] []) (k_numbered_parts : PySem.W.keepIn K (.ref f_numbered_parts) = true) (m_numbered_parts : mg "numbered_parts" = some (.ref f_numbered_parts))
    (G_rows_with : FnOk P w K mg base CX0 2 f_rows_with d_rows_with ["node", "rows"] (spM rTr)) (b_rows_with : Binds K d_rows_with ["node", "rows"] []) (k_rows_with : PySem.W.keepIn K (.ref f_rows_with) = true) (m_rows_with : mg "rows_with" = some (.ref f_rows_with)) :
    FnOk P w K mg base CX0 4 f fd ["body", "first"] spRC := by
  refine F.ok sc_rows_of_counted (fun vs H Q E h => ?_) (fun cdv A outer s H vs Q E hr h => ?_)
  · obtain ⟨t, v, fi, rfl, _⟩ := h
    rfl
  obtain ⟨t, v, fi, rfl, hv, hsz, q⟩ := h
  have nd := sc_rows_of_counted.nd
  refine ⟨_, (pss_one (ps_ret (pe_callTy (k_tuple (K := K)) rfl B.tuple_ bt_tuple (pa_cons (pe_call G_built_up (hr.mono (by first | decide | omega)) rfl m_built_up k_built_up b_built_up .nil pass0 (pa_cons (pe_tup (pa_cons (pv 0) (pa_cons (pv 1) pa_nil))) (pa_cons (pe_glob (v := .ref _) rfl m_numbered_parts rfl) (pa_cons (pe_glob (v := .ref _) rfl m_rows_with rfl) pa_nil)))) pa_nil)))), ?_⟩
  refine ⟨_, rfl, _, rfl, two2, fun p hp => ?_⟩
  have s1 := same_new hp (.tup [v, .int fi])
  refine ⟨rTr, fun _ => False, (t, fi), .ref p, f_numbered_parts, f_rows_with, d_numbered_parts, d_rows_with, _, _, rfl, G_numbered_parts, k_numbered_parts, b_numbered_parts, G_rows_with, k_rows_with, b_rows_with, fun _ h => h.elim,
    ⟨p, v, rfl, upd_same, CAt.mono (.of s1) _ _ hv⟩, Nat.le_trans (rsize_le t) hsz, fun r H' sm e => ?_⟩
  obtain ⟨l, us, rfl, hl, _, hus⟩ := e
  exact ⟨l, us, rfl, .inl ⟨SqL.of hl, fun r2 hr2 => q (.ref r2) _ (s1.trans (sm.trans (same_new hr2 _))) ⟨r2, us, rfl, upd_same, hus.imp fun _ _ h => h.mono (tups_of (same_new hr2 _))⟩⟩⟩
end
end CP
/-! fns in the order in which they are met, blocks, the numbers of closes and calls -/
namespace CP
open PySem L2 BV
mutual
def fnl : Pt → List Pt
  | .node l ks => (if Pt.isFn l then [.node l ks] else []) ++ fnls ks
def fnls : List Pt → List Pt
  | [] => []
  | t :: r => fnl t ++ fnls r
end
theorem fnls_app (a b : List Pt) : fnls (a ++ b) = fnls a ++ fnls b := by
  induction a with
  | nil => rfl
  | cons t r ih => simp only [List.cons_append, fnls, ih, List.append_assoc]
theorem fnl_eq (t : Pt) : fnl t = (if Pt.isFn t.lab then [t] else []) ++ fnls t.kids := by cases t; rfl
mutual
theorem fnl_len : ∀ t : Pt, (fnl t).length = t.fns
  | .node l ks => by
    show ((if Pt.isFn l then [Pt.node l ks] else []) ++ fnls ks).length = (if Pt.isFn l then 1 else 0) + Pt.fnss ks
    rw [List.length_append, fnls_len ks]
    split <;> rfl
theorem fnls_len : ∀ ks : List Pt, (fnls ks).length = Pt.fnss ks
  | [] => rfl
  | t :: r => by simp only [fnls, Pt.fnss, List.length_append, fnl_len t, fnls_len r]
end
mutual
theorem fnl_fn : ∀ (t x : Pt), x ∈ fnl t → Pt.isFn x.lab = true
  | .node l ks, x, h => by
    rcases List.mem_append.mp (show x ∈ (if Pt.isFn l then [Pt.node l ks] else []) ++ fnls ks from h) with h | h
    · cases hb : Pt.isFn l
      · rw [hb] at h; cases h
      · rw [hb] at h; rw [List.mem_singleton.mp h]; exact hb
    · exact fnls_fn ks x h
theorem fnls_fn : ∀ (ks : List Pt) (x : Pt), x ∈ fnls ks → Pt.isFn x.lab = true
  | [], x, h => by cases h
  | t :: r, x, h => by
    rcases List.mem_append.mp (show x ∈ fnl t ++ fnls r from h) with h | h
    · exact fnl_fn t x h
    · exact fnls_fn r x h
end
mutual
theorem fnl_size : ∀ (t x : Pt), x ∈ fnl t → x.size ≤ t.size
  | .node l ks, x, h => by
    rcases List.mem_append.mp (show x ∈ (if Pt.isFn l then [Pt.node l ks] else []) ++ fnls ks from h) with h | h
    · cases hb : Pt.isFn l
      · rw [hb] at h; cases h
      · rw [hb] at h; rw [List.mem_singleton.mp h]; exact Nat.le_refl _
    · have := fnls_size ks x h
      show x.size ≤ 1 + Pt.sizes ks
      omega
theorem fnls_size : ∀ (ks : List Pt) (x : Pt), x ∈ fnls ks → x.size ≤ Pt.sizes ks
  | [], x, h => by cases h
  | t :: r, x, h => by
    rcases List.mem_append.mp (show x ∈ fnl t ++ fnls r from h) with h | h
    · have := fnl_size t x h; simp only [Pt.sizes]; omega
    · have := fnls_size r x h; simp only [Pt.sizes]; omega
end
/-! what stands in an fn comes right behind it -/
mutual
theorem fnl_in : ∀ (t x : Pt) (j : Nat), (fnl t)[j]? = some x → ∀ i y, (fnls x.kids)[i]? = some y → (fnl t)[j + 1 + i]? = some y
  | .node l ks, x, j, hj, i, y, hy => by
    have e : fnl (.node l ks) = (if Pt.isFn l then [Pt.node l ks] else []) ++ fnls ks := rfl
    rw [e] at hj ⊢
    cases hb : Pt.isFn l
    · rw [hb] at hj
      simp only [Bool.false_eq_true, if_false, List.nil_append] at hj ⊢
      exact fnls_in ks x j hj i y hy
    · rw [hb] at hj
      simp only [if_true] at hj ⊢
      cases j with
      | zero =>
        have hx : x = .node l ks := by simpa using hj.symm
        subst hx
        have hy : (fnls ks)[i]? = some y := hy
        rw [show 0 + 1 + i = i + 1 by omega]
        simpa using hy
      | succ j =>
        have hj' : (fnls ks)[j]? = some x := by simpa using hj
        have := fnls_in ks x j hj' i y hy
        rw [show j + 1 + 1 + i = (j + 1 + i) + 1 by omega]
        simpa using this
theorem fnls_in : ∀ (ks : List Pt) (x : Pt) (j : Nat), (fnls ks)[j]? = some x → ∀ i y, (fnls x.kids)[i]? = some y → (fnls ks)[j + 1 + i]? = some y
  | [], x, j, hj, i, y, hy => by simp [fnls] at hj
  | t :: r, x, j, hj, i, y, hy => by
    have e : fnls (t :: r) = fnl t ++ fnls r := rfl
    rw [e] at hj ⊢
    by_cases h : j < (fnl t).length
    · rw [List.getElem?_append_left h] at hj
      have := fnl_in t x j hj i y hy
      rw [List.getElem?_append_left (List.getElem?_eq_some_iff.mp this).1]
      exact this
    · rw [List.getElem?_append_right (Nat.le_of_not_lt h)] at hj
      have := fnls_in r x _ hj i y hy
      rw [List.getElem?_append_right (by omega)]
      rw [show j + 1 + i - (fnl t).length = j - (fnl t).length + 1 + i by omega]
      exact this
end
/-! blocks -/
structure Blk where
  count : Int
  size : Int
  rows : List Row
def backR : Row := [.str "back"]
def blkOf (x : Pt) (k : Int) : Blk := match x with
  | .node (.fn ts n) [b] => ⟨(ts.length : Nat) + 1, n, rows b (k + 1) ++ [backR]⟩
  | _ => ⟨0, 0, []⟩
def fblocks : List Pt → Int → List Blk
  | [], _ => []
  | x :: r, k => blkOf x k :: fblocks r (k + 1)
theorem fblocks_app (a b : List Pt) (k : Int) : fblocks (a ++ b) k = fblocks a k ++ fblocks b (k + (a.length : Nat)) := by
  induction a generalizing k with
  | nil => simp [fblocks]
  | cons x r ih =>
    simp only [List.cons_append, fblocks, ih, List.length_cons]
    congr 3
    omega
theorem fblocks_len (a : List Pt) (k : Int) : (fblocks a k).length = a.length := by
  induction a generalizing k with
  | nil => rfl
  | cons x r ih => simp only [fblocks, List.length_cons, ih]
theorem fblocks_at (a : List Pt) (k : Int) (i : Nat) : (fblocks a k)[i]? = (a[i]?).map fun x => blkOf x (k + (i : Nat)) := by
  induction a generalizing k i with
  | nil => simp [fblocks]
  | cons x r ih =>
    cases i with
    | zero => simp [fblocks]
    | succ i =>
      simp only [fblocks, List.getElem?_cons_succ, ih]
      congr 1
      funext y
      congr 1
      omega
structure Fn3 where
  count : Int
  size : Int
  body : Pt
def fblk : List Fn3 → Int → List Blk
  | [], _ => []
  | g :: r, f => ⟨g.count, g.size, rows g.body f ++ [backR]⟩ :: fblk r (f + (g.body.fns : Nat))
def allf (gs : List Fn3) : List Pt := fnls (gs.map Fn3.body)
def sumf (gs : List Fn3) : Nat := (gs.map fun g => g.body.fns).sum
theorem allf_len (gs : List Fn3) : (allf gs).length = sumf gs := by
  induction gs with
  | nil => rfl
  | cons g r ih =>
    have e : allf (g :: r) = fnl g.body ++ allf r := rfl
    rw [e, List.length_append, ih, fnl_len]
    simp [sumf]
theorem fblk_len (gs : List Fn3) (f : Int) : (fblk gs f).length = gs.length := by
  induction gs generalizing f with
  | nil => rfl
  | cons g r ih => simp only [fblk, List.length_cons, ih]
theorem fblk_app (a b : List Fn3) (f : Int) : fblk (a ++ b) f = fblk a f ++ fblk b (f + (sumf a : Nat)) := by
  induction a generalizing f with
  | nil => simp [fblk, sumf]
  | cons g r ih =>
    simp only [List.cons_append, fblk, ih]
    congr 2
    simp only [sumf, List.map_cons, List.sum_cons]
    congr 1
    omega
theorem fblk_at (gs : List Fn3) (f : Int) (i : Nat) : (fblk gs f)[i]? = (gs[i]?).map fun g => ⟨g.count, g.size, rows g.body (f + (sumf (gs.take i) : Nat)) ++ [backR]⟩ := by
  induction gs generalizing f i with
  | nil => simp [fblk]
  | cons g r ih =>
    cases i with
    | zero => simp [fblk, sumf]
    | succ i =>
      simp only [fblk, List.getElem?_cons_succ, ih, List.take_succ_cons]
      congr 1
      funext y
      congr 3
      simp only [sumf, List.map_cons, List.sum_cons]
      omega
theorem allf_app (a b : List Fn3) : allf (a ++ b) = allf a ++ allf b := by
  unfold allf
  rw [List.map_append, fnls_app]
def blocksOf (gs : List Fn3) : List Blk := fblk gs (gs.length : Nat) ++ fblocks (allf gs) (gs.length : Nat)
/-! on the heap -/
def BlkAt (H : Hp) (b : Blk) (v : V) : Prop := ∃ p r, v = .ref p ∧ H p = some (.tup [.int b.count, .int b.size, r]) ∧ RowsT H b.rows r
theorem BlkAt.mono {H H' : Hp} (m : ∀ b xs, H b = some (.tup xs) → H' b = some (.tup xs)) {b : Blk} {v : V} (h : BlkAt H b v) : BlkAt H' b v := by
  obtain ⟨p, r, e, hp, hr⟩ := h
  exact ⟨p, r, e, m _ _ hp, hr.mono m⟩
def Fn3At (H : Hp) (g : Fn3) (v : V) : Prop := ∃ p b, v = .ref p ∧ H p = some (.tup [.int g.count, .int g.size, b]) ∧ PAt H g.body b
theorem Fn3At.mono {H H' : Hp} (m : ∀ b xs, H b = some (.tup xs) → H' b = some (.tup xs)) {g : Fn3} {v : V} (h : Fn3At H g v) : Fn3At H' g v := by
  obtain ⟨p, b, e, hp, hb⟩ := h
  exact ⟨p, b, e, m _ _ hp, PAt.mono m _ _ hb⟩
end CP
set_option maxHeartbeats 8000000
namespace CP
open PySem L2 BV
seal PE PT PW PA PS PSs PTs PI PG PGs PO
abbrev s_block_of : Stmt := BV.top 12
abbrev s_blocks_of_fns : Stmt := BV.top 13
abbrev s_every_fn : Stmt := BV.top 14
abbrev s_compiled : Stmt := BV.top 11
theorem sc_block_of : FnScope ["count", "size", "body", "first"] ["count", "size", "body", "first"] (defScope s_block_of) := ⟨rfl, rfl, rfl, by decide +kernel, rfl, by decide +kernel, by decide +kernel⟩
theorem sc_blocks_of_fns : FnScope ["body", "first", "found", "number", "fn", "term"] ["body", "first"] (defScope s_blocks_of_fns) := ⟨rfl, rfl, rfl, by decide +kernel, rfl, by decide +kernel, by decide +kernel⟩
theorem sc_every_fn : FnScope ["body", "found", "waiting", "one"] ["body"] (defScope s_every_fn) := ⟨rfl, rfl, rfl, by decide +kernel, rfl, by decide +kernel, by decide +kernel⟩
theorem sc_compiled : FnScope ["placed", "functions", "of_functions", "of_fns", "function", "body", "first"] ["placed"] (defScope s_compiled) := ⟨rfl, rfl, rfl, by decide +kernel, rfl, by decide +kernel, by decide +kernel⟩
theorem rows_ne {H : Hp} {t : Pt} {v : V} {fi : Int} (h : PAt H t v) : rows t fi ≠ [] := by
  cases t with
  | node l ks =>
    obtain ⟨p, xs, vs, _, _, hs, hk⟩ := h
    have hk := hk.all2
    show rowsOf fi l (rowss ks fi) ≠ []
    cases hs with
    | ite a b c =>
      cases hk with
      | cons _ hk => cases hk with
        | cons _ hk => cases hk with
          | cons _ hk => cases hk; simp [rowss, rowsOf]
    | let_ k a b =>
      cases hk with
      | cons _ hk => cases hk with
        | cons _ hk => cases hk; simp [rowss, rowsOf]
    | _ => simp [rowsOf]
section
variable {P : Program} {w : World} {K : PySem.W.Frag} {mg : Str → Option Value} {base : Heap} {f : Addr} {fd : FuncData} {f_rows_of_counted f_block_of f_every_fn f_counted f_blocks_of_fns : Addr} {d_rows_of_counted d_block_of d_every_fn d_counted d_blocks_of_fns : FuncData}
/-- two tuples of rows, one behind the other -/
theorem RowsT.cat {H : Hp} {rs rt : List Row} {x y : V} {Q : VK} (h : RowsT H rs x) (h' : RowsT H rt y) (hn : rs ≠ []) (hm : rt ≠ []) (hz : rs.length + rt.length ≤ sizeLine) (q : ∀ r H', Same H H' → RowsT H' (rs ++ rt) r → Q r H') : rCatT K x y H Q := by
  obtain ⟨p, us, rfl, hp, hu⟩ := h
  obtain ⟨p2, us2, rfl, hp2, hu2⟩ := h'
  have l1 := hu.len
  have l2 := hu2.len
  refine ⟨p, p2, us, us2, rfl, rfl, SqT.of hp, SqT.of hp2, fun e => ?_, by omega, fun e => ?_, fun _ r hr => q (.ref r) _ (same_new hr _) ⟨r, _, rfl, upd_same, (hu.imp fun _ _ h => h.mono (tups_of (same_new hr _))).app (hu2.imp fun _ _ h => h.mono (tups_of (same_new hr _)))⟩⟩
  · subst e; rw [List.length_nil] at l1; exact absurd (List.eq_nil_of_length_eq_zero l1) hn
  · subst e; rw [List.length_nil] at l2; exact absurd (List.eq_nil_of_length_eq_zero l2) hm
theorem one_row {H : Hp} {p q : Addr} {r : Row} (hp : H p = some (.tup r)) (hq : H q = some (.tup [.ref p])) : RowsT H [r] (.ref q) := ⟨q, _, rfl, hq, .cons ⟨p, rfl, hp⟩ .nil⟩
def spBlockOf : Sp := fun vs H Q _ => ∃ t v c sz fi, vs = [.int c, .int sz, v, .int fi] ∧ CAt (fun _ => False) H t v ∧ t.size ≤ 400000 ∧ ∀ r H', Same H H' → BlkAt H' ⟨c, sz, rows t fi ++ [backR]⟩ r → Q r H'
theorem ok_block_of (F : Fun K "block_of" "block_of" s_block_of f fd)
    (G_rows_of_counted : FnOk P w K mg base CX0 4 f_rows_of_counted d_rows_of_counted ["body", "first"] spRC) (b_rows_of_counted : Binds K d_rows_of_counted ["body", "first"] []) (k_rows_of_counted : PySem.W.keepIn K (.ref f_rows_of_counted) = true) (m_rows_of_counted : mg "rows_of_counted" = some (.ref f_rows_of_counted)) :
    FnOk P w K mg base CX0 5 f fd ["count", "size", "body", "first"] spBlockOf := by
  refine F.ok sc_block_of (fun vs H Q E h => ?_) (fun cdv A outer s H vs Q E hr h => ?_)
  · obtain ⟨t, v, c, sz, fi, rfl, _⟩ := h
    rfl
  obtain ⟨t, v, c, sz, fi, rfl, hv, hsz, q⟩ := h
  have nd := sc_block_of.nd
  have zz : (16000000 : Nat) ≤ sizeLine := by decide
  obtain ⟨pc, tv, cl, us, rfl, hpc, ht, hcl, _, hus⟩ := CAt.open hv
  have hrl := rows_len t tv fi ht
  have hrs := rsize_le t
  refine ⟨_, (pss_one (ps_ret (pe_tup (pa_cons (pv 0) (pa_cons (pv 1) (pa_cons (pe_op (kAddT (K := K)) (pe_call G_rows_of_counted (hr.mono (by first | decide | omega)) rfl m_rows_of_counted k_rows_of_counted b_rows_of_counted .nil pass0 (pa_cons (pv 2) (pa_cons (pv 3) pa_nil))) (pe_tup (pa_cons (pe_tup (pa_cons pe_str pa_nil)) pa_nil))) pa_nil)))))), ?_⟩
  refine ⟨_, rfl, _, rfl, _, rfl, _, rfl, t, .ref pc, fi, rfl, hv, hsz, fun r H1 s1 hr1 => ⟨one1, fun p hp => ⟨one1, fun p2 hp2 => ?_⟩⟩⟩
  have s2 := same_new hp (.tup [.str "back"])
  have s3 := same_new hp2 (.tup [.ref p])
  have s23 := s2.trans s3
  refine .inr (.inl (RowsT.cat (hr1.mono (tups_of s23)) (one_row (s3 _ _ upd_same) upd_same) (rows_ne ht) (by simp) (by simp only [List.length_cons, List.length_nil]; omega) fun r4 H4 s4 hr4 => ⟨three3, fun p5 hp5 => ?_⟩))
  have s5 := same_new hp5 (.tup [.int c, .int sz, r4])
  exact q (.ref p5) _ (s1.trans (s23.trans (s4.trans s5))) ⟨p5, r4, rfl, upd_same, hr4.mono (tups_of s5)⟩
def spEvery : Sp := fun vs H Q _ => ∃ S t v, vs = [v] ∧ CAt S H t v ∧ t.size ≤ 400000 ∧ ∀ r H' us, Same H H' → H r = none → H' r = some (.lst us) → All2 (CAt S H) (fnl t) us → Q (.ref r) H'
theorem fnls_le (W : List Pt) : (fnls W).length ≤ (W.map Pt.size).sum := by
  have h := Pt.fnss_le W
  rw [← fnls_len, Pt.sizes_eq] at h
  exact h
theorem ok_every_fn (F : Fun K "every_fn" "every_fn" s_every_fn f fd) (B : BV.NoG mg) : FnOk P w K mg base CX0 1 f fd ["body"] spEvery := by
  refine F.ok sc_every_fn (fun vs H Q E h => ?_) (fun cdv A outer s H vs Q E hr h => ?_)
  · obtain ⟨S, t, v, rfl, _⟩ := h
    rfl
  obtain ⟨S, t, v, rfl, hv, hsz, q⟩ := h
  have nd := sc_every_fn.nd
  have hu := hr.units0
  have zz : (800001 : Nat) ≤ sizeLine := by decide
  refine ⟨_, (pss_cons (ps_set (i := 1) nd rfl (Or.inl rfl) (pe_lst pa_nil))
      (pss_cons (ps_set (i := 2) nd rfl (Or.inl rfl) (pe_lst (pa_cons (pv 0) pa_nil)))
      (pss_cons (ps_cut (ps_while PassesOwn.never (k_truth (K := K) (pv 2) (fun _ => rfl)) (pss_cons (ps_set (i := 3) nd rfl (Or.inl rfl) (k_bm0 (K := K) PySem.F.plainAttrs_list PySem.F.slot_list_pop PySem.F.type_list_pop mt_pop (pv 2)))
      (pss_cons (ps_cut (ps_if (pt_cmpR (kEq (K := K) hu) (pe_ix (kIx (K := K) (w := w)) (pe_ix (kIx (K := K) (w := w)) (pv 3) pe_int (fun _ _ => rfl)) pe_int (fun _ _ => rfl)) pe_str rfl) (pss_one (ps_expr (k_bm (K := K) PySem.F.plainAttrs_list PySem.F.slot_list_append PySem.F.type_list_append mt_append (pv 1) (pa_cons (pv 3) pa_nil)))) pss_nil))
      (pss_one (ps_expr (k_bm (K := K) PySem.F.plainAttrs_list PySem.F.slot_list_extend PySem.F.type_list_extend mt_extend (pv 2) (pa_cons (pe_listRev (K := K) rfl B.reversed_ rfl B.list_ rfl (pa_cons (pe_ix (kIx (K := K) (w := w)) (pv 3) pe_int (fun _ _ => rfl)) pa_nil)) pa_nil))))))))
      (pss_one (ps_ret (pv 1)))))), ?_⟩
  refine ⟨(by show 0 ≤ sizeLine; decide), fun fl hfl => ⟨_, rfl, one1, fun wl hwl0 => ?_⟩⟩
  obtain ⟨hwl, nwf⟩ := upd_none hwl0
  have g0 : Same H (upd (upd H fl (.lst [])) wl (.lst [v])) := (same_new hfl _).trans (same_new hwl0 _)
  refine ⟨fun σ H' => ∃ y us, σ = [some v, some (.ref fl), some (.ref wl), y] ∧ Same H H' ∧ H' fl = some (.lst us) ∧ All2 (CAt S H) (fnl t) us, ?_, ?_⟩
  · refine ⟨fun m σ H' => ∃ (W D : List Pt) (ws us : List V) (y : Option V), σ = [some v, some (.ref fl), some (.ref wl), y] ∧ Same H H' ∧ H' fl = some (.lst us) ∧ H' wl = some (.lst ws) ∧
        All2 (CAt S H) W ws.reverse ∧ All2 (CAt S H) D us ∧ D ++ fnls W = fnl t ∧ m = (W.map Pt.size).sum ∧ m ≤ 400000 ∧ D.length + m ≤ 400000,
      ⟨t.size, [t], [], [v], [], none, rfl, g0, BV.upd_at upd_same (Ne.symm nwf), upd_same, .cons hv .nil, .nil, by simp [fnls], by simp, hsz, by simpa using hsz⟩, ?_⟩
    rintro m σ H' ⟨W, D, ws, us, y, rfl, sm, hf, hw, hW, hD, hE, rfl, hm, hDm⟩
    refine ⟨_, rfl, !ws.isEmpty, .inl ⟨ws, SqL.of hw, rfl⟩, ?_⟩
    generalize ew : ws.reverse = wr at hW
    have ew := BV.rev_eq ew
    subst ew
    cases hW with
    | nil =>
      refine ifF (by simp) ⟨_, us, rfl, sm, hf, ?_⟩
      simp only [fnls, List.append_nil] at hE
      rw [← hE]
      exact hD
    | @cons n u W' wr hn hW' =>
      refine ifT (by simp) ?_
      refine ⟨_, fun _ _ h => h, ?_⟩
      refine ⟨_, rfl, .inl ⟨rfl, _, SqL.of hw⟩, wl, _, _, rfl, rfl, hw, BV.last_rev _ _, ?_⟩
      rw [BV.drop_rev]
      have hf1 : upd H' wl (.lst wr.reverse) fl = some (.lst us) := BV.upd_at hf (Ne.symm nwf)
      have hw1 : upd H' wl (.lst wr.reverse) wl = some (.lst wr.reverse) := upd_same
      have o1 : Same H (upd H' wl (.lst wr.reverse)) := fun b o e => BV.upd_at (sm b o e) (ne_of_none e hwl)
      generalize upd H' wl (.lst wr.reverse) = H1 at hf1 hw1 o1 ⊢
      obtain ⟨pc, tv, c, us2, rfl, hpc, ht, hcl, _, hus2⟩ := CAt.open hn
      obtain ⟨pt, xs, vs, rfl, hpt, hs, hk⟩ := PAt.open ht
      obtain ⟨rest, hx⟩ := hs.head
      have hat : atI xs ((0 : Nat) : Int) = some (.str (form n.lab)) := atI_nat (by rw [hx]; rfl)
      have hse := Pt.size_eq n
      have hfe := fnl_eq n
      have hfl2 := fnls_le n.kids
      simp only [List.map_cons, List.sum_cons] at hm hDm
      have hDl := hD.len
      -- if one[0][0] == 'fn'
      refine ⟨fun σ H' => ∃ D' us', σ = [some v, some (.ref fl), some (.ref wl), some (.ref pc)] ∧ Same H H' ∧ H' fl = some (.lst us') ∧ H' wl = some (.lst wr.reverse) ∧ All2 (CAt S H) D' us' ∧ D' = D ++ (if Pt.isFn n.lab then [n] else []), ?_, ?_⟩
      · refine ⟨_, rfl, .inr (.inl ⟨pc, _, 0, _, rfl, rfl, SqT.of (o1 _ _ hpc), rfl, .inr (.inl ⟨pt, _, 0, _, rfl, rfl, SqT.of (o1 _ _ hpt), hat, .inl ⟨rfl, _, rfl, ?_⟩⟩)⟩)⟩
        rw [fn_dec]
        cases hb : Pt.isFn n.lab
        · exact ifF Bool.false_ne_true ⟨D, us, rfl, o1, hf1, hw1, hD, by simp⟩
        · refine ifT rfl ⟨_, rfl, .inl ⟨rfl, _, SqL.of hf1⟩, _, rfl, fl, _, _, rfl, rfl, hf1, by omega, D ++ [n], _, rfl, fun b o e => BV.upd_at (o1 _ _ e) (ne_of_none e hfl), upd_same, BV.upd_at hw1 nwf, hD.app (.cons hn .nil), by simp⟩
      rintro σ H2 ⟨D', us', rfl, o2, hf2, hw2, hD', rfl⟩
      -- waiting.extend(list(reversed(one[2])))
      refine ⟨_, rfl, .inl ⟨rfl, _, SqL.of hw2⟩, _, rfl, .inr (.inl ⟨pc, _, 2, _, rfl, rfl, SqT.of (o2 _ _ hpc), rfl, c, us2, rfl, SqL.of (o2 _ _ hcl), fun r2 hr2 => ?_⟩)⟩
      have s5 := same_new hr2 (.lst us2.reverse)
      have hWl := hW'.len
      have hul := hus2.len
      have hkl : n.kids.length ≤ n.size := cTr.kids_le n
      have hWs : W'.length ≤ (W'.map Pt.size).sum := cTr.len_le W'
      refine ⟨wl, r2, _, _, rfl, rfl, s5 _ _ hw2, upd_same, ?_, ?_⟩
      · simp only [List.length_reverse]
        omega
      refine ⟨_, ?_, n.kids ++ W', D ++ (if Pt.isFn n.lab then [n] else []), wr.reverse ++ us2.reverse, us', _, rfl, fun b o e => BV.upd_at (s5 _ _ (o2 b o e)) (ne_of_none e hwl), BV.upd_at (s5 _ _ hf2) (Ne.symm nwf), upd_same, ?_, hD', ?_, rfl, ?_, ?_⟩
      · simp only [List.map_append, List.sum_append, List.map_cons, List.sum_cons]
        omega
      · rw [List.reverse_append, List.reverse_reverse, List.reverse_reverse]
        exact hus2.app hW'
      · rw [fnls_app, List.append_assoc, ← List.append_assoc (if Pt.isFn n.lab then [n] else []), ← hfe]
        exact hE
      · simp only [List.map_append, List.sum_append]
        omega
      · simp only [List.map_append, List.sum_append, List.length_append]
        have : (if Pt.isFn n.lab then [n] else []).length ≤ 1 := by split <;> simp
        omega
  rintro σ H' ⟨y, us, rfl, sm, hf, hD⟩
  exact ⟨_, rfl, q fl H' us sm hfl hf hD⟩
end
end CP
set_option maxHeartbeats 8000000
namespace CP
open PySem L2 BV
seal PE PT PW PA PS PSs PTs PI PG PGs PO
theorem fn_shape {H : Hp} {l : Lab} {ps xs : List V} (h : Shp H l ps xs) (hb : Pt.isFn l = true) : ∃ ts n a p, l = .fn ts n ∧ ps = [a] ∧ xs = [.str "fn", .ref p, .int n, a] ∧ H p = some (.tup (ts.map V.int)) := by
  cases h <;> first | (cases hb; done) | exact ⟨_, _, _, _, rfl, rfl, rfl, by assumption⟩
section
variable {P : Program} {w : World} {K : PySem.W.Frag} {mg : Str → Option Value} {base : Heap} {f : Addr} {fd : FuncData} {f_rows_of_counted f_block_of f_every_fn f_counted f_blocks_of_fns : Addr} {d_rows_of_counted d_block_of d_every_fn d_counted d_blocks_of_fns : FuncData}
def spBF : Sp := fun vs H Q _ => ∃ t v fi, vs = [v, .int fi] ∧ CAt (fun _ => False) H t v ∧ t.size ≤ 400000 ∧ (0 ≤ fi ∧ fi < 2 ^ 61) ∧ ∀ r H' us, Same H H' → H r = none → H' r = some (.lst us) → All2 (BlkAt H') (fblocks (fnl t) fi) us → Q (.ref r) H'
theorem ok_blocks_of_fns (F : Fun K "blocks_of_fns" "blocks_of_fns" s_blocks_of_fns f fd) (B : BV.NoG mg)
    (G_every_fn : FnOk P w K mg base CX0 1 f_every_fn d_every_fn ["body"] spEvery) (b_every_fn : Binds K d_every_fn ["body"] []) (k_every_fn : PySem.W.keepIn K (.ref f_every_fn) = true) (m_every_fn : mg "every_fn" = some (.ref f_every_fn))
    (G_block_of : FnOk P w K mg base CX0 5 f_block_of d_block_of ["count", "size", "body", "first"] spBlockOf) (b_block_of : Binds K d_block_of ["count", "size", "body", "first"] []) (k_block_of : PySem.W.keepIn K (.ref f_block_of) = true) (m_block_of : mg "block_of" = some (.ref f_block_of)) :
    FnOk P w K mg base CX0 6 f fd ["body", "first"] spBF := by
  refine F.ok sc_blocks_of_fns (fun vs H Q E h => ?_) (fun cdv A outer s H vs Q E hr h => ?_)
  · obtain ⟨t, v, fi, rfl, _⟩ := h
    rfl
  obtain ⟨t, v, fi, rfl, hv, hsz, hfi, q⟩ := h
  have nd := sc_blocks_of_fns.nd
  have zz : (400001 : Nat) ≤ sizeLine := by decide
  refine ⟨_, (pss_cons (ps_set (i := 2) nd rfl (Or.inl rfl) (pe_lst pa_nil))
      (pss_cons (ps_cut (ps_for PassesOwn.never rfl (pi_enum (K := K) rfl B.enumerate_ (pa_cons (pe_call G_every_fn (hr.mono (by first | decide | omega)) rfl m_every_fn k_every_fn b_every_fn .nil pass0 (pa_cons (pv 0) pa_nil)) pa_nil) (pv 1)) (pg_tup rfl (pgs_cons (pg_name (i := 3) nd rfl (Or.inl rfl)) (pgs_cons (pg_name (i := 4) nd rfl (Or.inl rfl)) pgs_nil))) (pss_cons (ps_set (i := 5) nd rfl (Or.inl rfl) (pe_ix (kIx (K := K) (w := w)) (pv 4) pe_int (fun _ _ => rfl)))
      (pss_one (ps_expr (k_bm (K := K) PySem.F.plainAttrs_list PySem.F.slot_list_append PySem.F.type_list_append mt_append (pv 2) (pa_cons (pe_call G_block_of (hr.mono (by first | decide | omega)) rfl m_block_of k_block_of b_block_of .nil pass0 (pa_cons (pe_op uAdd (pe_callB (k_len (K := K)) rfl B.len_ bt_len (pa_cons (pe_ix (kIx (K := K) (w := w)) (pv 5) pe_int (fun _ _ => rfl)) pa_nil)) pe_int) (pa_cons (pe_ix (kIx (K := K) (w := w)) (pv 5) pe_int (fun _ _ => rfl)) (pa_cons (pe_ix (kIx (K := K) (w := w)) (pe_ix (kIx (K := K) (w := w)) (pv 4) pe_int (fun _ _ => rfl)) pe_int (fun _ _ => rfl)) (pa_cons (pe_op uAdd (pv 3) pe_int) pa_nil))))) pa_nil)))))))
      (pss_one (ps_ret (pv 2))))), ?_⟩
  refine ⟨(by show 0 ≤ sizeLine; decide), fun fl hfl => ?_⟩
  have s0 := same_new hfl (.lst [])
  have hv0 : CAt (fun a => a = fl) H t v := CAt.wide (S := fun _ => False) (fun a ha => .inr (by rw [ha]; exact hfl)) _ _ hv
  have hv1 := CAt.mono (.of s0) _ _ hv0
  have hfs : (upd H fl (.lst [])) fl = some (.lst []) := upd_same
  have hbl := fblocks_len (fnl t) fi
  have hfn := fnl_len t
  have hfl2 := Pt.fns_le t
  refine ⟨fun σ H' => ∃ a b c ws, σ = [some v, some (.int fi), some (.ref fl), a, b, c] ∧ Same H H' ∧ H' fl = some (.lst ws) ∧ All2 (BlkAt H') (fblocks (fnl t) fi) ws, ?_, ?_⟩
  · refine ⟨_, rfl, fun a => a = fl, t, v, rfl, hv1, hsz, fun r H1 us s1 hr0 hr1 hA => ?_⟩
    have hul := hA.len
    have nrf : r ≠ fl := fun e => by subst e; rw [hfs] at hr0; cases hr0
    refine ⟨_, rfl, r, us, fi, rfl, rfl, SqL.of hr1, ⟨by omega, by omega⟩, for_enum (xs := us) (fun i σ H' => ∃ a b c ws, σ = [some v, some (.int fi), some (.ref fl), a, b, c] ∧ Kp (fun a => a = fl) H1 H' ∧ H' fl = some (.lst ws) ∧ All2 (BlkAt H') ((fblocks (fnl t) fi).take i) ws) ?_ ?_ ?_ ?_⟩
    · exact ⟨none, none, none, [], rfl, .refl _ _, s1 _ _ hfs, .nil⟩
    · rintro i σ H' _ ⟨a, b, c, ws, rfl, k, _⟩
      exact SqL.of (k.2 _ _ hr1 nrf)
    · rintro i x σ H' T hx ⟨a, b, c, ws, rfl, k, hf, hB⟩ hT
      obtain ⟨n, hn, hcn⟩ := hA.get hx
      have hmem : n ∈ fnl t := List.mem_of_getElem? hn
      have hcn' := CAt.mono (k.trans (.of (same_new hT (.tup [.int (fi + (i : Nat)), x])))) _ _ (CAt.mono (.of s1) _ _ hcn)
      have hf' := (same_new hT (.tup [.int (fi + (i : Nat)), x])) _ _ hf
      have hB' := hB.imp fun _ _ h => h.mono (tups_of (same_new hT (.tup [.int (fi + (i : Nat)), x])))
      have k' := k.trans (Kp.of (S := fun a => a = fl) (same_new hT (.tup [.int (fi + (i : Nat)), x])))
      refine ⟨T, _, rfl, SqT.of upd_same, rfl, _, _, rfl, _, _, rfl, rfl, ?_⟩
      generalize upd H' T (.tup [.int (fi + (i : Nat)), x]) = H2 at hcn' hf' hB' k' ⊢
      have hfn1 := fnl_fn t n hmem
      obtain ⟨pc, tv, cl, us2, rfl, hpc, ht, hcl, hncl, hus2⟩ := CAt.open hcn'
      obtain ⟨pt, xs, vs, rfl, hpt, hs, hk⟩ := PAt.open ht
      obtain ⟨ts, sz, av, pp, hl, rfl, rfl, hpp⟩ := fn_shape hs hfn1
      have hkl := hk.len
      have hul2 := hus2.len
      cases n with
      | node nl nks =>
      have hl' : nl = .fn ts sz := hl
      subst hl'
      match nks, hkl, hus2, hul2, hk with
      | [kb], _, hus2, hul2, hk =>
      match us2, hul2, hus2, hcl with
      | [ub], _, hus2, hcl =>
      have hub : CAt (fun a => a = fl) H2 kb ub := by
        have h9 : All2 (CAt (fun a => a = fl) H2) [kb] [ub] := hus2
        cases h9 with
        | cons h _ => exact h
      have hszk : kb.size ≤ 400000 := by
        have h1 : (Pt.node (.fn ts sz) [kb]).size ≤ t.size := by
          have := fnl_size t _ hmem
          exact this
        have h2 := Pt.kid_size (t := .node (.fn ts sz) [kb]) (k := kb) (by simp [Pt.kids])
        omega
      have hBl := hB'.len
      rw [List.length_take] at hBl
      -- term = fn[0]
      refine ⟨_, rfl, .inr (.inl ⟨pc, _, 0, _, rfl, rfl, SqT.of hpc, rfl, ?_⟩)⟩
      -- found.append(block_of(len(term[1]) + 1, term[2], fn[2][0], number + 1))
      refine ⟨_, rfl, .inl ⟨rfl, _, SqL.of hf'⟩, _, rfl, .inr (.inl ⟨pt, _, 1, _, rfl, rfl, SqT.of hpt, rfl, _, _, rfl, .inr ⟨_, SqT.of hpp, rfl⟩, .inl ⟨_, _, rfl, rfl, ?_⟩⟩)⟩
      refine ⟨_, rfl, .inr (.inl ⟨pt, _, 2, _, rfl, rfl, SqT.of hpt, rfl, ?_⟩)⟩
      refine ⟨_, rfl, .inr (.inl ⟨pc, _, 2, _, rfl, rfl, SqT.of hpc, rfl, .inl ⟨cl, _, 0, _, rfl, rfl, SqL.of hcl, rfl, ?_⟩⟩)⟩
      refine ⟨_, rfl, .inl ⟨_, _, rfl, rfl, ?_⟩⟩
      refine ⟨kb, ub, _, _, _, rfl, CAt.wide (fun _ z => z.elim) _ _ hub, hszk, fun r3 H3 s3 hr3 => ?_⟩
      refine ⟨fl, _, _, rfl, rfl, s3 _ _ hf', by omega, ?_⟩
      have m3 : ∀ b xs, H3 b = some (.tup xs) → (upd H3 fl (.lst (ws ++ [r3]))) b = some (.tup xs) := fun b xs e => by
        rw [upd_ne (ne_of e (s3 _ _ hf') (by intro z; cases z))]; exact e
      have hat : (fblocks (fnl t) fi)[i]? = some (blkOf (.node (.fn ts sz) [kb]) (fi + (i : Nat))) := by rw [fblocks_at, hn]; rfl
      refine ⟨_, _, _, ws ++ [r3], rfl, k'.trans ((Kp.of s3).trans (Kp.upd (S := fun a => a = fl) (show fl = fl from rfl) (s3 _ _ hf') _)), upd_same, ?_⟩
      rw [BV.take_one hat]
      refine (hB'.imp fun _ _ h => (h.mono (tups_of s3)).mono m3).app (.cons ?_ .nil)
      have e1 : blkOf (.node (.fn ts sz) [kb]) (fi + (i : Nat)) = ⟨((ts.map V.int).length : Nat) + 1, sz, rows kb (fi + (i : Nat) + 1) ++ [backR]⟩ := by rw [List.length_map]; rfl
      rw [e1]
      exact hr3.mono m3
    · rintro σ H' ⟨a, b, c, ws, rfl, k, hf, hB⟩
      refine ⟨a, b, c, ws, rfl, fun b o e => k.2 _ _ (s1 _ _ (s0 _ _ e)) (ne_of_none e hfl), hf, ?_⟩
      rw [List.take_of_length_le (by rw [hbl, hul]; exact Nat.le_refl _)] at hB
      exact hB
  rintro σ H' ⟨a, b, c, ws, rfl, sm, hf, hB⟩
  exact ⟨_, rfl, q fl H' ws sm hfl hf hB⟩
def spCompiled : Sp := fun vs H Q _ => ∃ (p fl0 : Addr) (gs : List Fn3) (fs : List V) (main : Int), vs = [.ref p] ∧ H p = some (.tup [.ref fl0, .int main]) ∧ H fl0 = some (.lst fs) ∧ All2 (Fn3At H) gs fs ∧ gs.length ≤ 1000 ∧ sumf gs ≤ 8000000 ∧ (∀ g ∈ gs, g.body.size ≤ 400000) ∧
  ∀ r rl H' us, Same H H' → H' r = some (.tup [.ref rl, .int main]) → H' rl = some (.lst us) → All2 (BlkAt H') (blocksOf gs) us → Q (.ref r) H'
theorem sumf_take (gs : List Fn3) (i : Nat) : sumf (gs.take i) ≤ sumf gs := by
  have e : gs = gs.take i ++ gs.drop i := (List.take_append_drop i gs).symm
  conv => rhs; rw [e]
  unfold sumf
  rw [List.map_append, List.sum_append]
  omega
theorem ok_compiled (F : Fun K "compiled" "compiled" s_compiled f fd) (B : BV.NoG mg)
    (G_counted : FnOk P w K mg base CX0 4 f_counted d_counted ["term"] spCounted) (b_counted : Binds K d_counted ["term"] []) (k_counted : PySem.W.keepIn K (.ref f_counted) = true) (m_counted : mg "counted" = some (.ref f_counted))
    (G_block_of : FnOk P w K mg base CX0 5 f_block_of d_block_of ["count", "size", "body", "first"] spBlockOf) (b_block_of : Binds K d_block_of ["count", "size", "body", "first"] []) (k_block_of : PySem.W.keepIn K (.ref f_block_of) = true) (m_block_of : mg "block_of" = some (.ref f_block_of))
    (G_blocks_of_fns : FnOk P w K mg base CX0 6 f_blocks_of_fns d_blocks_of_fns ["body", "first"] spBF) (b_blocks_of_fns : Binds K d_blocks_of_fns ["body", "first"] []) (k_blocks_of_fns : PySem.W.keepIn K (.ref f_blocks_of_fns) = true) (m_blocks_of_fns : mg "blocks_of_fns" = some (.ref f_blocks_of_fns)) :
    FnOk P w K mg base CX0 7 f fd ["placed"] spCompiled := by
  refine F.ok sc_compiled (fun vs H Q E h => ?_) (fun cdv A outer s H vs Q E hr h => ?_)
  · obtain ⟨p, fl0, gs, fs, main, rfl, _⟩ := h
    rfl
  obtain ⟨p, fl0, gs, fs, main, rfl, hp, hfl0, hgs, hgl, hsf, hbs, q⟩ := h
  have nd := sc_compiled.nd
  have zz : (16000000 : Nat) ≤ sizeLine := by decide
  have hgfl := hgs.len
  refine ⟨_, (pss_cons (ps_set (i := 1) nd rfl (Or.inl rfl) (pe_ix (kIx (K := K) (w := w)) (pv 0) pe_int (fun _ _ => rfl)))
      (pss_cons (ps_set (i := 2) nd rfl (Or.inl rfl) (pe_lst pa_nil))
      (pss_cons (ps_set (i := 3) nd rfl (Or.inl rfl) (pe_lst pa_nil))
      (pss_cons (ps_cut (ps_for PassesOwn.never rfl (k_ilist (K := K) (pv 1)) (pg_name (i := 4) nd rfl (Or.inl rfl)) (pss_cons (ps_set (i := 5) nd rfl (Or.inl rfl) (pe_call G_counted (hr.mono (by first | decide | omega)) rfl m_counted k_counted b_counted .nil pass0 (pa_cons (pe_ix (kIx (K := K) (w := w)) (pv 4) pe_int (fun _ _ => rfl)) pa_nil)))
      (pss_cons (ps_set (i := 6) nd rfl (Or.inl rfl) (pe_op uAdd (pe_callB (k_len (K := K)) rfl B.len_ bt_len (pa_cons (pv 1) pa_nil)) (pe_callB (k_len (K := K)) rfl B.len_ bt_len (pa_cons (pv 3) pa_nil))))
      (pss_cons (ps_expr (k_bm (K := K) PySem.F.plainAttrs_list PySem.F.slot_list_append PySem.F.type_list_append mt_append (pv 2) (pa_cons (pe_call G_block_of (hr.mono (by first | decide | omega)) rfl m_block_of k_block_of b_block_of .nil pass0 (pa_cons (pe_ix (kIx (K := K) (w := w)) (pv 4) pe_int (fun _ _ => rfl)) (pa_cons (pe_ix (kIx (K := K) (w := w)) (pv 4) pe_int (fun _ _ => rfl)) (pa_cons (pv 5) (pa_cons (pv 6) pa_nil))))) pa_nil)))
      (pss_one (ps_expr (k_bm (K := K) PySem.F.plainAttrs_list PySem.F.slot_list_extend PySem.F.type_list_extend mt_extend (pv 3) (pa_cons (pe_call G_blocks_of_fns (hr.mono (by first | decide | omega)) rfl m_blocks_of_fns k_blocks_of_fns b_blocks_of_fns .nil pass0 (pa_cons (pv 5) (pa_cons (pv 6) pa_nil))) pa_nil)))))))))
      (pss_one (ps_ret (pe_tup (pa_cons (pe_op uAdd (pv 2) (pv 3)) (pa_cons (pe_ix (kIx (K := K) (w := w)) (pv 0) pe_int (fun _ _ => rfl)) pa_nil))))))))), ?_⟩
  refine ⟨_, rfl, .inr (.inl ⟨p, _, 0, _, rfl, rfl, SqT.of hp, rfl, ?_⟩)⟩
  refine ⟨(by show 0 ≤ sizeLine; decide), fun al hal => ⟨(by show 0 ≤ sizeLine; decide), fun bl hbl => ?_⟩⟩
  have s0 := (same_new hal (.lst [])).trans (same_new hbl (.lst []))
  obtain ⟨hbl0, nba⟩ := upd_none hbl
  have ha0 : (upd (upd H al (.lst [])) bl (.lst [])) al = some (.lst []) := (same_new hbl _) _ _ upd_same
  refine ⟨fun σ H' => ∃ x y z us vs, σ = [some (.ref p), some (.ref fl0), some (.ref al), some (.ref bl), x, y, z] ∧ Same H H' ∧ H' al = some (.lst us) ∧ H' bl = some (.lst vs) ∧ All2 (BlkAt H') (fblk gs (gs.length : Nat)) us ∧ All2 (BlkAt H') (fblocks (allf gs) (gs.length : Nat)) vs, ?_, ?_⟩
  · refine ⟨_, rfl, fl0, rfl, ⟨fs, SqL.of (s0 _ _ hfl0)⟩, for_list (xs := fs) (fun i σ H' => ∃ x y z us vs, σ = [some (.ref p), some (.ref fl0), some (.ref al), some (.ref bl), x, y, z] ∧ Same H H' ∧ H' al = some (.lst us) ∧ H' bl = some (.lst vs) ∧
        All2 (BlkAt H') (fblk (gs.take i) (gs.length : Nat)) us ∧ All2 (BlkAt H') (fblocks (allf (gs.take i)) (gs.length : Nat)) vs) ?_ ?_ ?_ ?_⟩
    · exact ⟨none, none, none, [], [], rfl, s0, ha0, upd_same, .nil, .nil⟩
    · rintro i σ H' _ ⟨x, y, z, us, vs, rfl, sm, _⟩
      exact SqL.of (sm _ _ hfl0)
    · rintro i u σ H' hu ⟨x, y, z, us, vs, rfl, sm, ha, hb, hA, hB⟩
      obtain ⟨g, hg, pg, bv, rfl, hpg, hbv⟩ := hgs.get hu
      have hgm : g ∈ gs := List.mem_of_getElem? hg
      have hAl := hA.len
      have hBl := hB.len
      rw [fblk_len, List.length_take] at hAl
      rw [fblocks_len, allf_len] at hBl
      have hst := sumf_take gs i
      have hst1 := sumf_take gs (i + 1)
      have hsu : sumf (gs.take (i + 1)) = sumf (gs.take i) + g.body.fns := by
        rw [BV.take_one hg]
        simp [sumf]
      have hi : i < gs.length := (List.getElem?_eq_some_iff.mp hg).1
      -- body = counted(function[2])
      refine ⟨_, rfl, .inr (.inl ⟨pg, _, 2, _, rfl, rfl, SqT.of (sm _ _ hpg), rfl, fun a => a = al ∨ a = bl, g.body, bv, rfl, PAt.mono (tups_of sm) _ _ hbv, hbs g hgm, fun a ha2 => ?_, fun r1 H1 s1 hr1 => ?_⟩)⟩
      · rcases ha2 with rfl | rfl
        · rw [ha]; exact fun z => nomatch z
        · rw [hb]; exact fun z => nomatch z
      have sm1 := sm.trans s1
      -- first = len(functions) + len(of_fns)
      refine ⟨_, rfl, _, _, rfl, .inl ⟨_, SqL.of (sm1 _ _ hfl0), rfl⟩, _, rfl, _, _, rfl, .inl ⟨_, SqL.of (s1 _ _ hb), rfl⟩, .inl ⟨_, _, rfl, rfl, ?_⟩⟩
      have efi : ((fs.length : Nat) : Int) + (vs.length : Nat) = (gs.length : Nat) + (sumf (gs.take i) : Nat) := by omega
      -- of_functions.append(block_of(..))
      refine ⟨_, rfl, .inl ⟨rfl, _, SqL.of (s1 _ _ ha)⟩, _, rfl, .inr (.inl ⟨pg, _, 0, _, rfl, rfl, SqT.of (sm1 _ _ hpg), rfl, _, rfl, .inr (.inl ⟨pg, _, 1, _, rfl, rfl, SqT.of (sm1 _ _ hpg), rfl, _, rfl, _, rfl, ?_⟩)⟩)⟩
      refine ⟨g.body, r1, _, _, _, rfl, CAt.wide (fun _ z => z.elim) _ _ hr1, hbs g hgm, fun r2 H2 s2 hr2 => ?_⟩
      rw [efi] at hr2
      have hb2 := s2 _ _ (s1 _ _ hb)
      have ha2 := s2 _ _ (s1 _ _ ha)
      refine ⟨al, _, _, rfl, rfl, ha2, by omega, ?_⟩
      have m3 : ∀ b xs, H2 b = some (.tup xs) → (upd H2 al (.lst (us ++ [r2]))) b = some (.tup xs) := fun b xs e => by
        rw [upd_ne (ne_of e ha2 (by intro z; cases z))]; exact e
      have s3 : Same H (upd H2 al (.lst (us ++ [r2]))) := fun b o e => by rw [upd_ne (ne_of_none e hal)]; exact s2 _ _ (sm1 _ _ e)
      have hr13 : CAt (fun a => a = al ∨ a = bl) (upd H2 al (.lst (us ++ [r2]))) g.body r1 := CAt.mono ((Kp.of s2).trans (Kp.upd (S := fun a => a = al ∨ a = bl) (show al = al ∨ al = bl from .inl rfl) ha2 _)) _ _ hr1
      have hb3 : (upd H2 al (.lst (us ++ [r2]))) bl = some (.lst vs) := by rw [upd_ne nba]; exact hb2
      have ha3 : (upd H2 al (.lst (us ++ [r2]))) al = some (.lst (us ++ [r2])) := upd_same
      have hA3 : All2 (BlkAt (upd H2 al (.lst (us ++ [r2])))) (fblk (gs.take (i + 1)) (gs.length : Nat)) (us ++ [r2]) := by
        rw [BV.take_one hg, fblk_app]
        exact (hA.imp fun _ _ h => (h.mono (tups_of (s1.trans s2))).mono m3).app (.cons (hr2.mono m3) .nil)
      have hB3 : All2 (BlkAt (upd H2 al (.lst (us ++ [r2])))) (fblocks (allf (gs.take i)) (gs.length : Nat)) vs := hB.imp fun _ _ h => (h.mono (tups_of (s1.trans s2))).mono m3
      generalize upd H2 al (.lst (us ++ [r2])) = H3 at s3 hr13 hb3 ha3 hA3 hB3 ⊢
      -- of_fns.extend(blocks_of_fns(body, first))
      refine ⟨_, rfl, .inl ⟨rfl, _, SqL.of hb3⟩, _, rfl, _, rfl, g.body, r1, _, rfl, CAt.wide (fun _ z => z.elim) _ _ hr13, hbs g hgm, ⟨by omega, by omega⟩, fun r4 H4 ws s4 hr40 hr4 hB4 => ?_⟩
      rw [efi] at hB4
      have hfl := hB4.len
      rw [fblocks_len, fnl_len] at hfl
      refine ⟨bl, r4, _, _, rfl, rfl, s4 _ _ hb3, hr4, by omega, ?_⟩
      have m5 : ∀ b xs, H4 b = some (.tup xs) → (upd H4 bl (.lst (vs ++ ws))) b = some (.tup xs) := fun b xs e => by
        rw [upd_ne (ne_of e (s4 _ _ hb3) (by intro z; cases z))]; exact e
      refine ⟨_, _, _, us ++ [r2], vs ++ ws, rfl, fun b o e => by rw [upd_ne (ne_of_none e hbl0)]; exact s4 _ _ (s3 _ _ e), by rw [upd_ne (Ne.symm nba)]; exact s4 _ _ ha3, upd_same, hA3.imp fun _ _ h => (h.mono (tups_of s4)).mono m5, ?_⟩
      have e6 : allf (gs.take (i + 1)) = allf (gs.take i) ++ fnl g.body := by
        rw [BV.take_one hg, allf_app]
        simp [allf, fnls]
      rw [e6, fblocks_app, allf_len]
      exact (hB3.imp fun _ _ h => (h.mono (tups_of s4)).mono m5).app (hB4.imp fun _ _ h => h.mono m5)
    · rintro σ H' ⟨x, y, z, us, vs, rfl, sm, ha, hb, hA, hB⟩
      rw [List.take_of_length_le (by rw [hgfl]; exact Nat.le_refl _)] at hA hB
      exact ⟨x, y, z, us, vs, rfl, sm, ha, hb, hA, hB⟩
  rintro σ H' ⟨x, y, z, us, vs, rfl, sm, ha, hb, hA, hB⟩
  have l1 := hA.len
  have l2 := hB.len
  rw [fblk_len] at l1
  rw [fblocks_len, allf_len] at l2
  refine ⟨_, rfl, _, rfl, .inr (.inr ⟨al, bl, _, _, rfl, rfl, ha, hb, by omega, fun r hr0 => ?_⟩)⟩
  have s1 := same_new hr0 (.lst (us ++ vs))
  refine ⟨_, rfl, .inr (.inl ⟨p, _, 1, _, rfl, rfl, SqT.of (s1 _ _ (sm _ _ hp)), rfl, two2, fun p2 hp2 => ?_⟩)⟩
  have s2 := s1.trans (same_new hp2 (.tup [.ref r, .int main]))
  exact q p2 r _ (us ++ vs) (sm.trans s2) upd_same ((same_new hp2 _) _ _ upd_same) ((hA.imp fun _ _ h => h.mono (tups_of s2)).app (hB.imp fun _ _ h => h.mono (tups_of s2)))
end
end CP
/-! heights: what is expected at each row, and that the rows of a term keep to it -/
namespace CP
open PySem L2 BV
inductive Rk where
  | push (v : V) | non | load (k : Int) | keep (k : Int) | op2 (j : Nat) | op1 (j : Nat) | unless (n : Nat) | skip (n : Nat) | call (m : Int) (k : Nat) | close (m : Int) (k : Nat) | apply | back
def encR : Rk → Row
  | .push v => [.str "push", v] | .non => [.str "none"] | .load k => [.str "load", .int k] | .keep k => [.str "keep", .int k] | .op2 j => [.str (sgR j)] | .op1 j => [.str (wdS j)]
  | .unless n => [.str "unless", .int (n : Nat)] | .skip n => [.str "skip", .int (n : Nat)] | .call m k => [.str "call", .int m, .int (k : Nat)] | .close m k => [.str "close", .int m, .int (k : Nat)] | .apply => [.str "apply"] | .back => [.str "back"]
def wants : Rk → Nat
  | .op2 _ | .apply => 2
  | .op1 _ | .keep _ | .unless _ | .back => 1
  | .call _ k | .close _ k => k
  | _ => 0
def leaves : Rk → Nat
  | .keep _ | .unless _ | .skip _ | .back => 0
  | _ => 1
def jump : Rk → Option Nat
  | .skip n | .unless n => some n
  | _ => none
def falls : Rk → Bool
  | .skip _ | .back => false
  | _ => true
structure Crt where
  h : Nat
  M : List Int
def newM (c : Crt) : Rk → List Int
  | .keep k => c.M ++ [k]
  | _ => c.M
/-- one leads to the other -/
def Leads (c : Crt) (k : Rk) (c' : Crt) : Prop := c'.h + wants k = c.h + leaves k ∧ ∀ m ∈ c'.M, m ∈ newM c k
def RowC (size : Int) (c : Crt) (k : Rk) : Prop := wants k ≤ c.h ∧ (∀ s, k = .load s → s ∈ c.M ∧ 0 ≤ s ∧ s < size) ∧ ∀ s, k = .keep s → 0 ≤ s ∧ s < size
abbrev Ln := List (Crt × Rk)
def crts (L : Ln) (e : Crt) : List Crt := L.map Prod.fst ++ [e]
structure Seg (size : Int) (a e : Crt) (L : Ln) : Prop where
  hd : (crts L e)[0]? = some a
  ok : ∀ i c k, L[i]? = some (c, k) → RowC size c k ∧ k ≠ .back ∧ (∀ n, jump k = some n → ∃ c', (crts L e)[i + 1 + n]? = some c' ∧ Leads c k c') ∧ (falls k = true → ∃ c', (crts L e)[i + 1]? = some c' ∧ Leads c k c')
  rc : ∀ i, 0 < i → i ≤ L.length → (∃ c k, L[i - 1]? = some (c, k) ∧ falls k = true) ∨ ∃ j n c k, L[j]? = some (c, k) ∧ jump k = some n ∧ j + 1 + n = i
theorem crts_app (L R : Ln) (e : Crt) : crts (L ++ R) e = L.map Prod.fst ++ crts R e := by
  unfold crts
  rw [List.map_append, List.append_assoc]
theorem crts_low {L R : Ln} {m e : Crt} (hd : (crts R e)[0]? = some m) {i : Nat} {c : Crt} (h : (crts L m)[i]? = some c) : (crts (L ++ R) e)[i]? = some c := by
  rw [crts_app]
  unfold crts at h
  by_cases hi : i < (L.map Prod.fst).length
  · rw [List.getElem?_append_left hi] at h ⊢
    exact h
  · rw [List.getElem?_append_right (by omega)] at h ⊢
    have h1 := (List.getElem?_eq_some_iff.mp h).1
    have : i - (L.map Prod.fst).length = 0 := by simp only [List.length_cons, List.length_nil] at h1; omega
    rw [this] at h ⊢
    rw [hd]
    simpa using h
theorem crts_high {L R : Ln} {e : Crt} {i : Nat} {c : Crt} (h : (crts R e)[i]? = some c) : (crts (L ++ R) e)[L.length + i]? = some c := by
  rw [crts_app, List.getElem?_append_right (by rw [List.length_map]; omega), List.length_map, show L.length + i - L.length = i by omega]
  exact h
theorem Seg.app {size : Int} {a m e : Crt} {L R : Ln} (h : Seg size a m L) (h' : Seg size m e R) : Seg size a e (L ++ R) where
  hd := crts_low h'.hd h.hd
  ok := fun i c k hi => by
    by_cases hl : i < L.length
    · rw [List.getElem?_append_left hl] at hi
      obtain ⟨h1, h2, h3, h4⟩ := h.ok i c k hi
      refine ⟨h1, h2, fun n hn => ?_, fun hf => ?_⟩
      · obtain ⟨c', h5, h6⟩ := h3 n hn
        exact ⟨c', crts_low h'.hd h5, h6⟩
      · obtain ⟨c', h5, h6⟩ := h4 hf
        exact ⟨c', crts_low h'.hd h5, h6⟩
    · rw [List.getElem?_append_right (by omega)] at hi
      obtain ⟨h1, h2, h3, h4⟩ := h'.ok _ c k hi
      refine ⟨h1, h2, fun n hn => ?_, fun hf => ?_⟩
      · obtain ⟨c', h5, h6⟩ := h3 n hn
        have := crts_high (L := L) h5
        rw [show L.length + (i - L.length + 1 + n) = i + 1 + n by omega] at this
        exact ⟨c', this, h6⟩
      · obtain ⟨c', h5, h6⟩ := h4 hf
        have := crts_high (L := L) h5
        rw [show L.length + (i - L.length + 1) = i + 1 by omega] at this
        exact ⟨c', this, h6⟩
  rc := fun i h0 hi => by
    rw [List.length_append] at hi
    by_cases hl : i ≤ L.length
    · rcases h.rc i h0 hl with ⟨c, k, h1, h2⟩ | ⟨j, n, c, k, h1, h2, h3⟩
      · exact .inl ⟨c, k, by rw [List.getElem?_append_left (List.getElem?_eq_some_iff.mp h1).1]; exact h1, h2⟩
      · exact .inr ⟨j, n, c, k, by rw [List.getElem?_append_left (List.getElem?_eq_some_iff.mp h1).1]; exact h1, h2, h3⟩
    · rcases h'.rc (i - L.length) (by omega) (by omega) with ⟨c, k, h1, h2⟩ | ⟨j, n, c, k, h1, h2, h3⟩
      · refine .inl ⟨c, k, ?_, h2⟩
        rw [List.getElem?_append_right (by omega), show i - 1 - L.length = i - L.length - 1 by omega]
        exact h1
      · refine .inr ⟨L.length + j, n, c, k, ?_, h2, by omega⟩
        rw [List.getElem?_append_right (by omega), show L.length + j - L.length = j by omega]
        exact h1
theorem Seg.one {size : Int} {a e : Crt} {k : Rk} (h : RowC size a k) (hb : k ≠ .back) (hj : jump k = none) (hf : falls k = true) (hl : Leads a k e) : Seg size a e [(a, k)] where
  hd := rfl
  ok := fun i c k' hi => by
    have : i = 0 := by have := (List.getElem?_eq_some_iff.mp hi).1; simp only [List.length_cons, List.length_nil] at this; omega
    subst this
    have e : (a, k) = (c, k') := Option.some.inj hi
    injection e with e1 e2
    subst e1 e2
    exact ⟨h, hb, fun n hn => (by rw [hj] at hn; cases hn), fun _ => ⟨e, rfl, hl⟩⟩
  rc := fun i h0 hi => by
    have : i = 1 := by simp only [List.length_cons, List.length_nil] at hi; omega
    subst this
    exact .inl ⟨a, k, rfl, hf⟩
theorem Seg.nil {size : Int} {a : Crt} : Seg size a a [] where
  hd := rfl
  ok := fun i c k hi => by simp at hi
  rc := fun i h0 hi => by simp at hi; omega
/-- unless, the one way, skip, the other way -/
theorem Seg.ifs {size : Int} {u m e : Crt} {La Lb : Ln} (hu : 1 ≤ u.h) (lu : Leads u (.unless (La.length + 1)) m) {s : Crt} (ha : Seg size m s La) (hb : Seg size m e Lb) (ls : Leads s (.skip Lb.length) e) :
    Seg size u e ((u, .unless (La.length + 1)) :: La ++ (s, .skip Lb.length) :: Lb) := by
  have e1 : ((u, Rk.unless (La.length + 1)) :: La ++ (s, Rk.skip Lb.length) :: Lb) = [(u, Rk.unless (La.length + 1))] ++ (La ++ ([(s, Rk.skip Lb.length)] ++ Lb)) := by simp
  rw [e1]
  have hsb : (crts ([(s, Rk.skip Lb.length)] ++ Lb) e)[0]? = some s := rfl
  have hdA : ∀ i c, (crts La s)[i]? = some c → (crts ([(u, Rk.unless (La.length + 1))] ++ (La ++ ([(s, Rk.skip Lb.length)] ++ Lb))) e)[1 + i]? = some c := fun i c h => crts_high (L := [(u, Rk.unless (La.length + 1))]) (crts_low hsb h)
  have hdB : ∀ i c, (crts Lb e)[i]? = some c → (crts ([(u, Rk.unless (La.length + 1))] ++ (La ++ ([(s, Rk.skip Lb.length)] ++ Lb))) e)[La.length + 2 + i]? = some c := fun i c h => by
    have h1 := crts_high (L := [(u, Rk.unless (La.length + 1))]) (crts_high (L := La) (crts_high (L := [(s, Rk.skip Lb.length)]) h))
    simp only [List.length_cons, List.length_nil] at h1
    rw [show La.length + 2 + i = 0 + 1 + (La.length + (0 + 1 + i)) by omega]
    exact h1
  have hend : (crts Lb e)[Lb.length]? = some e := by
    unfold crts
    rw [List.getElem?_append_right (by rw [List.length_map]; exact Nat.le_refl _), List.length_map, Nat.sub_self]
    rfl
  refine ⟨rfl, fun i c k hi => ?_, fun i h0 hi => ?_⟩
  · cases i with
    | zero =>
      have e : (u, Rk.unless (La.length + 1)) = (c, k) := Option.some.inj hi
      injection e with e2 e3
      subst e2 e3
      refine ⟨⟨hu, (fun s h => nomatch h), (fun s h => nomatch h)⟩, (fun h => nomatch h), fun n hn => ?_, fun _ => ⟨m, ?_, lu⟩⟩
      · have : n = La.length + 1 := (Option.some.inj hn).symm
        subst this
        have := hdB 0 m hb.hd
        rw [show 0 + 1 + (La.length + 1) = La.length + 2 + 0 by omega]
        exact ⟨m, this, lu⟩
      · exact hdA 0 m ha.hd
    | succ i =>
      have hi : (La ++ ([(s, Rk.skip Lb.length)] ++ Lb))[i]? = some (c, k) := by simpa using hi
      by_cases hl : i < La.length
      · rw [List.getElem?_append_left hl] at hi
        obtain ⟨h1, h2, h3, h4⟩ := ha.ok i c k hi
        refine ⟨h1, h2, fun n hn => ?_, fun hf => ?_⟩
        · obtain ⟨c', h5, h6⟩ := h3 n hn
          have := hdA _ _ h5
          rw [show 1 + (i + 1 + n) = i + 1 + 1 + n by omega] at this
          exact ⟨c', this, h6⟩
        · obtain ⟨c', h5, h6⟩ := h4 hf
          have := hdA _ _ h5
          rw [show 1 + (i + 1) = i + 1 + 1 by omega] at this
          exact ⟨c', this, h6⟩
      · rw [List.getElem?_append_right (by omega)] at hi
        generalize hj : i - La.length = j at hi
        cases j with
        | zero =>
          have e : (s, Rk.skip Lb.length) = (c, k) := Option.some.inj hi
          injection e with e2 e3
          subst e2 e3
          refine ⟨⟨Nat.zero_le _, (fun s h => nomatch h), (fun s h => nomatch h)⟩, (fun h => nomatch h), fun n hn => ?_, (fun h => nomatch h)⟩
          have : n = Lb.length := (Option.some.inj hn).symm
          subst this
          have := hdB Lb.length _ hend
          rw [show La.length + 2 + Lb.length = i + 1 + 1 + Lb.length by omega] at this
          exact ⟨_, this, ls⟩
        | succ j =>
          have hi : Lb[j]? = some (c, k) := by simpa using hi
          obtain ⟨h1, h2, h3, h4⟩ := hb.ok j c k hi
          refine ⟨h1, h2, fun n hn => ?_, fun hf => ?_⟩
          · obtain ⟨c', h5, h6⟩ := h3 n hn
            have := hdB _ _ h5
            rw [show La.length + 2 + (j + 1 + n) = i + 1 + 1 + n by omega] at this
            exact ⟨c', this, h6⟩
          · obtain ⟨c', h5, h6⟩ := h4 hf
            have := hdB _ _ h5
            rw [show La.length + 2 + (j + 1) = i + 1 + 1 by omega] at this
            exact ⟨c', this, h6⟩
  · have hlen : ([(u, Rk.unless (La.length + 1))] ++ (La ++ ([(s, Rk.skip Lb.length)] ++ Lb))).length = La.length + Lb.length + 2 := by simp; omega
    rw [hlen] at hi
    have look : ∀ x, x < La.length → ([(u, Rk.unless (La.length + 1))] ++ (La ++ ([(s, Rk.skip Lb.length)] ++ Lb)))[x + 1]? = La[x]? := fun x hx => by
      rw [List.getElem?_append_right (by simp), show x + 1 - [(u, Rk.unless (La.length + 1))].length = x by simp, List.getElem?_append_left hx]
    have lookb : ∀ x, ([(u, Rk.unless (La.length + 1))] ++ (La ++ ([(s, Rk.skip Lb.length)] ++ Lb)))[La.length + 2 + x]? = Lb[x]? := fun x => by
      rw [List.getElem?_append_right (by simp only [List.length_cons, List.length_nil]; omega), List.getElem?_append_right (by simp only [List.length_cons, List.length_nil]; omega), List.getElem?_append_right (by simp only [List.length_cons, List.length_nil]; omega)]
      congr 1
      simp only [List.length_cons, List.length_nil]
      omega
    by_cases h1 : i = 1
    · subst h1
      exact .inl ⟨u, _, rfl, rfl⟩
    by_cases h2 : i ≤ La.length + 1
    · rcases ha.rc (i - 1) (by omega) (by omega) with ⟨c, k, h3, h4⟩ | ⟨j, n, c, k, h3, h4, h5⟩
      · refine .inl ⟨c, k, ?_, h4⟩
        have := look (i - 1 - 1) (by omega)
        rw [show i - 1 - 1 + 1 = i - 1 by omega] at this
        rw [this]; exact h3
      · refine .inr ⟨j + 1, n, c, k, ?_, h4, by omega⟩
        rw [look j (List.getElem?_eq_some_iff.mp h3).1]; exact h3
    by_cases h6 : i = La.length + 2
    · exact .inr ⟨0, La.length + 1, u, _, rfl, rfl, by omega⟩
    · rcases hb.rc (i - (La.length + 2)) (by omega) (by omega) with ⟨c, k, h3, h4⟩ | ⟨j, n, c, k, h3, h4, h5⟩
      · refine .inl ⟨c, k, ?_, h4⟩
        have := lookb (i - (La.length + 2) - 1)
        rw [show La.length + 2 + (i - (La.length + 2) - 1) = i - 1 by omega] at this
        rw [this]; exact h3
      · refine .inr ⟨La.length + 2 + j, n, c, k, ?_, h4, by omega⟩
        rw [lookb j]; exact h3
end CP
/-! terms that keep to their frames, and the heights of their rows -/
namespace CP
open PySem L2 BV
def SOl (size b : Int) : Lab → Prop
  | .slot k => 0 ≤ k ∧ k < b
  | .let_ k => k = b ∧ b < size
  | .fn ts n => (∀ s ∈ ts, 0 ≤ s ∧ s < b) ∧ (ts.length : Int) + 1 ≤ n ∧ ts.length ≤ 30
  | _ => True
def subS (size : Int) : Lab → Int
  | .fn _ n => n
  | _ => size
def bnds (b : Int) : Lab → Nat → List Int
  | .two _, _ | .do_, _ => [b, b]
  | .one _, _ => [b]
  | .ite, _ => [b, b, b]
  | .let_ _, _ => [b, b + 1]
  | .fn ts _, _ => [(ts.length : Int) + 1]
  | .call _, n => List.replicate n b
  | _, _ => []
mutual
def SOk (size b : Int) : Pt → Prop
  | .node l ks => SOl size b l ∧ SOks (subS size l) ks (bnds b l ks.length)
def SOks (size : Int) : List Pt → List Int → Prop
  | [], [] => True
  | t :: r, b :: bs => SOk size b t ∧ SOks size r bs
  | _, _ => False
end
/-! the lets of this frame have slots below -/
mutual
def LB (size : Int) : Pt → Prop
  | .node l ks => (∀ k, l = .let_ k → k < size) ∧ (Pt.isFn l = false → LBs size ks)
def LBs (size : Int) : List Pt → Prop
  | [] => True
  | t :: r => LB size t ∧ LBs size r
end
mutual
theorem LB.mono {a b : Int} (h : a ≤ b) : ∀ t : Pt, LB a t → LB b t
  | .node l ks, ⟨h1, h2⟩ => ⟨fun k e => Int.lt_of_lt_of_le (h1 k e) h, fun e => LBs.mono h ks (h2 e)⟩
theorem LBs.mono {a b : Int} (h : a ≤ b) : ∀ ks : List Pt, LBs a ks → LBs b ks
  | [], _ => trivial
  | t :: r, ⟨h1, h2⟩ => ⟨LB.mono h t h1, LBs.mono h r h2⟩
end
theorem LBs.of {a : Int} : ∀ {ks : List Pt}, (∀ k ∈ ks, LB a k) → LBs a ks
  | [], _ => trivial
  | t :: r, h => ⟨h t (List.mem_cons_self ..), LBs.of fun k hk => h k (List.mem_cons_of_mem _ hk)⟩
theorem LBs.mem {a : Int} : ∀ {ks : List Pt}, LBs a ks → ∀ k ∈ ks, LB a k
  | [], _, k, h => by cases h
  | t :: r, h, k, hk => by
    rcases List.mem_cons.mp hk with rfl | hk
    · exact h.1
    · exact LBs.mem h.2 k hk
/-- whatever the size of the frame, if the lets are below it -/
def BT (b : Int) (t : Pt) : Prop := ∀ size, LB size t → SOk size b t
theorem BT.two {b : Int} {l : Lab} {t u : Pt} (hb : ∀ n, bnds b l n = [b, b]) (hl : ∀ size, SOl size b l) (hs : ∀ size, subS size l = size) (hf : Pt.isFn l = false) (h1 : BT b t) (h2 : BT b u) : BT b (.node l [t, u]) := fun size h => by
  obtain ⟨h3, h4, _⟩ := h.2 hf
  refine ⟨hl size, ?_⟩
  rw [hb, hs]
  exact ⟨h1 size h3, h2 size h4, trivial⟩
theorem BT.one {b : Int} {j : Nat} {t : Pt} (h1 : BT b t) : BT b (.node (.one j) [t]) := fun size h => ⟨trivial, h1 size (h.2 rfl).1, trivial⟩
theorem BT.ite {b : Int} {t u v : Pt} (h1 : BT b t) (h2 : BT b u) (h3 : BT b v) : BT b (.node .ite [t, u, v]) := fun size h => ⟨trivial, h1 size (h.2 rfl).1, h2 size (h.2 rfl).2.1, h3 size (h.2 rfl).2.2.1, trivial⟩
theorem BT.let_ {b : Int} {t u : Pt} (h1 : BT b t) (h2 : BT (b + 1) u) : BT b (.node (.let_ b) [t, u]) := fun size h => ⟨⟨rfl, h.1 b rfl⟩, h1 size (h.2 rfl).1, h2 size (h.2 rfl).2.1, trivial⟩
theorem BT.fn {b n : Int} {ts : List Int} {t : Pt} (ht : ∀ s ∈ ts, 0 ≤ s ∧ s < b) (hn : (ts.length : Int) + 1 ≤ n) (h30 : ts.length ≤ 30) (hl : LB n t) (h1 : BT ((ts.length : Int) + 1) t) : BT b (.node (.fn ts n) [t]) := fun size h => ⟨⟨ht, hn, h30⟩, h1 n hl, trivial⟩
theorem BT.call {b m : Int} {ks : List Pt} (h : ∀ k ∈ ks, BT b k) : BT b (.node (.call m) ks) := fun size hl => by
  refine ⟨trivial, ?_⟩
  have hl2 : LBs size ks := hl.2 rfl
  show SOks size ks (List.replicate ks.length b)
  clear hl
  induction ks with
  | nil => trivial
  | cons t r ih => exact ⟨h t (List.mem_cons_self ..) size hl2.1, ih (fun k hk => h k (List.mem_cons_of_mem _ hk)) hl2.2⟩
/-! the rows -/
theorem Seg.exit {size : Int} {a e e' : Crt} {L : Ln} (h : Seg size a e L) (hn : L ≠ []) (hh : e'.h = e.h) (hm : ∀ m ∈ e'.M, m ∈ e.M) : Seg size a e' L := by
  have key : ∀ i c k c', (crts L e)[i]? = some c' → Leads c k c' → ∃ c'', (crts L e')[i]? = some c'' ∧ Leads c k c'' := fun i c k c' h1 h2 => by
    unfold crts at h1 ⊢
    by_cases hi : i < (L.map Prod.fst).length
    · rw [List.getElem?_append_left hi] at h1
      exact ⟨c', by rw [List.getElem?_append_left hi]; exact h1, h2⟩
    · rw [List.getElem?_append_right (by omega)] at h1
      have h9 := (List.getElem?_eq_some_iff.mp h1).1
      have : i - (L.map Prod.fst).length = 0 := by simp only [List.length_cons, List.length_nil] at h9; omega
      rw [this] at h1
      have ec : e = c' := by simpa using h1
      subst ec
      exact ⟨e', by rw [List.getElem?_append_right (by omega), this]; rfl, ⟨by rw [hh]; exact h2.1, fun m q => h2.2 m (hm m q)⟩⟩
  refine ⟨?_, fun i c k hi => ?_, h.rc⟩
  · have h0 := h.hd
    unfold crts at h0 ⊢
    have hl : 0 < (L.map Prod.fst).length := by rw [List.length_map]; exact List.length_pos_iff.mpr hn
    rw [List.getElem?_append_left hl] at h0 ⊢
    exact h0
  · obtain ⟨h1, h2, h3, h4⟩ := h.ok i c k hi
    refine ⟨h1, h2, fun n hn => ?_, fun hf => ?_⟩
    · obtain ⟨c', h5, h6⟩ := h3 n hn
      exact key _ _ _ _ h5 h6
    · obtain ⟨c', h5, h6⟩ := h4 hf
      exact key _ _ _ _ h5 h6
def Cov (b : Int) (M : List Int) : Prop := ∀ s, 0 ≤ s → s < b → s ∈ M
def encs (L : Ln) : List Row := L.map fun x => encR x.2
theorem encs_app (L R : Ln) : encs (L ++ R) = encs L ++ encs R := List.map_append
theorem encs_len (L : Ln) : (encs L).length = L.length := List.length_map ..
/-- the rows of a term: one value more, and what was kept is kept -/
def Does (size b : Int) (rs : List Row) (n : Nat) : Prop := ∀ (h : Nat) (M : List Int), Cov b M → ∃ L, Seg size ⟨h, M⟩ ⟨h + n, M⟩ L ∧ encs L = rs
theorem Does.app {size b : Int} {r1 r2 : List Row} {n m : Nat} (h1 : Does size b r1 n) (h2 : Does size b r2 m) : Does size b (r1 ++ r2) (n + m) := fun h M c => by
  obtain ⟨L1, s1, e1⟩ := h1 h M c
  obtain ⟨L2, s2, e2⟩ := h2 (h + n) M c
  refine ⟨L1 ++ L2, ?_, by rw [encs_app, e1, e2]⟩
  rw [show h + (n + m) = h + n + m by omega]
  exact s1.app s2
theorem Does.row {size b : Int} {r1 : List Row} {n : Nat} (h1 : Does size b r1 n) (k : Rk) (hw : wants k = n) (hl : leaves k = 1) (hj : jump k = none) (hf : falls k = true) (hb : k ≠ .back) (h2 : ∀ s, k ≠ .load s) (h3 : ∀ s, k ≠ .keep s) : Does size b (r1 ++ [encR k]) 1 := fun h M c => by
  obtain ⟨L1, s1, e1⟩ := h1 h M c
  refine ⟨L1 ++ [(⟨h + n, M⟩, k)], s1.app (.one ⟨by rw [hw]; exact Nat.le_add_left .., fun s e => absurd e (h2 s), fun s e => absurd e (h3 s)⟩ hb hj hf ⟨?_, ?_⟩), by rw [encs_app, e1]; rfl⟩
  · show h + 1 + wants k = h + n + leaves k
    omega
  · intro m hm
    cases k <;> first | exact hm | exact absurd rfl (h3 _)
theorem Does.nil {size b : Int} : Does size b [] 0 := fun h M c => ⟨[], .nil, rfl⟩
theorem Does.load {size b s : Int} (h1 : 0 ≤ s) (h2 : s < b) (h3 : b ≤ size) : Does size b [encR (.load s)] 1 := fun h M c =>
  ⟨[(⟨h, M⟩, .load s)], .one ⟨Nat.zero_le _, fun s' e => by cases e; exact ⟨c s h1 h2, h1, by omega⟩, (fun s e => nomatch e)⟩ (fun e => nomatch e) rfl rfl ⟨rfl, fun m hm => hm⟩, rfl⟩
theorem Does.loads {size b : Int} (h3 : b ≤ size) : ∀ ts : List Int, (∀ s ∈ ts, 0 ≤ s ∧ s < b) → Does size b (ts.map fun s => encR (.load s)) ts.length
  | [], _ => .nil
  | s :: r, h => by
    have h1 := Does.load (h s (List.mem_cons_self ..)).1 (h s (List.mem_cons_self ..)).2 h3
    have h2 := Does.loads h3 r fun x hx => h x (List.mem_cons_of_mem _ hx)
    have := h1.app h2
    rw [List.length_cons, Nat.add_comm]
    exact this
theorem Does.let_ {size b : Int} {r1 r2 : List Row} (hb : 0 ≤ b ∧ b < size) (h1 : Does size b r1 1) (h2 : Does size (b + 1) r2 1) (hn : r2 ≠ []) : Does size b (r1 ++ [encR (.keep b)] ++ r2) 1 := fun h M c => by
  obtain ⟨L1, s1, e1⟩ := h1 h M c
  have c' : Cov (b + 1) (M ++ [b]) := fun s s0 s1 => by
    by_cases e : s = b
    · subst e; simp
    · exact List.mem_append_left _ (c s s0 (by omega))
  obtain ⟨L2, s2, e2⟩ := h2 h (M ++ [b]) c'
  have s3 : Seg size ⟨h + 1, M⟩ ⟨h, M ++ [b]⟩ [(⟨h + 1, M⟩, .keep b)] := .one ⟨Nat.le_add_left .., (fun s e => nomatch e), fun s e => by cases e; exact hb⟩ (fun e => nomatch e) rfl rfl ⟨rfl, fun m hm => hm⟩
  have hn2 : L2 ≠ [] := fun e => hn (by rw [← e2, e]; rfl)
  refine ⟨(L1 ++ [(⟨h + 1, M⟩, .keep b)]) ++ L2, (s1.app s3).app (s2.exit (e' := ⟨h + 1, M⟩) hn2 rfl fun m hm => List.mem_append_left _ hm), by rw [encs_app, encs_app, e1, e2]; rfl⟩
theorem Does.ite {size b : Int} {r1 r2 r3 : List Row} (h1 : Does size b r1 1) (h2 : Does size b r2 1) (h3 : Does size b r3 1) : Does size b (r1 ++ [encR (.unless (r2.length + 1))] ++ r2 ++ [encR (.skip r3.length)] ++ r3) 1 := fun h M c => by
  obtain ⟨L1, s1, e1⟩ := h1 h M c
  obtain ⟨L2, s2, e2⟩ := h2 h M c
  obtain ⟨L3, s3, e3⟩ := h3 h M c
  have l2 : L2.length = r2.length := by rw [← e2, encs_len]
  have l3 : L3.length = r3.length := by rw [← e3, encs_len]
  refine ⟨L1 ++ ((⟨h + 1, M⟩, .unless (L2.length + 1)) :: L2 ++ (⟨h + 1, M⟩, .skip L3.length) :: L3), s1.app (Seg.ifs (u := ⟨h + 1, M⟩) (m := ⟨h, M⟩) (Nat.le_add_left ..) ⟨rfl, fun m hm => hm⟩ s2 s3 ⟨rfl, fun m hm => hm⟩), ?_⟩
  rw [encs_app, e1, ← l2, ← l3]
  show r1 ++ (encs ((⟨h + 1, M⟩, .unless (L2.length + 1)) :: L2 ++ (⟨h + 1, M⟩, .skip L3.length) :: L3)) = _
  rw [encs_app]
  show r1 ++ ((encR (.unless (L2.length + 1)) :: encs L2) ++ (encR (.skip L3.length) :: encs L3)) = _
  rw [e2, e3]
  simp
theorem rows_some : ∀ (t : Pt) (f size b : Int), SOk size b t → rows t f ≠ []
  | .node l ks, f, size, b, hs => by
    have hk := hs.2
    show rowsOf f l (rowss ks f) ≠ []
    cases l with
    | ite =>
      match ks, hk with
      | [x, y, z], hk => simp [rowss, rowsOf]
    | let_ k =>
      match ks, hk with
      | [x, y], hk => simp [rowss, rowsOf]
    | _ => simp [rowsOf]
mutual
theorem rows_does : ∀ (t : Pt) (f size b : Int), SOk size b t → 0 ≤ b → b ≤ size → Does size b (rows t f) 1
  | .node l ks, f, size, b, hs, h0, hb => by
    have hl := hs.1
    have hk := hs.2
    have hlen := rowss_len ks f
    show Does size b (rowsOf f l (rowss ks f)) 1
    cases l with
    | num i => exact Does.nil.row (.push (.int i)) rfl rfl rfl rfl (fun e => nomatch e) (fun s e => nomatch e) (fun s e => nomatch e)
    | tru i => exact Does.nil.row (.push (.bl i)) rfl rfl rfl rfl (fun e => nomatch e) (fun s e => nomatch e) (fun s e => nomatch e)
    | non => exact Does.nil.row .non rfl rfl rfl rfl (fun e => nomatch e) (fun s e => nomatch e) (fun s e => nomatch e)
    | slot k => exact Does.load hl.1 hl.2 hb
    | fn ts n => exact (Does.loads hb ts hl.1).row (.close f ts.length) rfl rfl rfl rfl (fun e => nomatch e) (fun s e => nomatch e) (fun s e => nomatch e)
    | two j =>
      match ks, hk with
      | [x, y], hk =>
        have p1 := rows_does x f size b hk.1 h0 hb
        have p2 := rows_does y (f + (x.fns : Nat)) size b hk.2.1 h0 hb
        have := (p1.app p2).row (.op2 j) rfl rfl rfl rfl (fun e => nomatch e) (fun s e => nomatch e) (fun s e => nomatch e)
        simpa [rowss, rowsOf, encR] using this
    | do_ =>
      match ks, hk with
      | [x, y], hk =>
        have p1 := rows_does x f size b hk.1 h0 hb
        have p2 := rows_does y (f + (x.fns : Nat)) size b hk.2.1 h0 hb
        have := (p1.app p2).row .apply rfl rfl rfl rfl (fun e => nomatch e) (fun s e => nomatch e) (fun s e => nomatch e)
        simpa [rowss, rowsOf, encR] using this
    | one j =>
      match ks, hk with
      | [x], hk =>
        have p1 := rows_does x f size b hk.1 h0 hb
        have := p1.row (.op1 j) rfl rfl rfl rfl (fun e => nomatch e) (fun s e => nomatch e) (fun s e => nomatch e)
        simpa [rowss, rowsOf, encR] using this
    | ite =>
      match ks, hk with
      | [x, y, z], hk =>
        have p1 := rows_does x f size b hk.1 h0 hb
        have p2 := rows_does y (f + (x.fns : Nat)) size b hk.2.1 h0 hb
        have p3 := rows_does z (f + (x.fns : Nat) + (y.fns : Nat)) size b hk.2.2.1 h0 hb
        have := Does.ite p1 p2 p3
        simpa [rowss, rowsOf, encR] using this
    | let_ k =>
      obtain ⟨rfl, hl⟩ := hl
      match ks, hk with
      | [x, y], hk =>
        have p1 := rows_does x f size _ hk.1 h0 hb
        have p2 := rows_does y (f + (x.fns : Nat)) size _ hk.2.1 (by omega) (by omega)
        have := Does.let_ ⟨h0, hl⟩ p1 p2 (rows_some y _ _ _ hk.2.1)
        simpa [rowss, rowsOf, encR] using this
    | call n =>
      have hk' : SOks size ks (List.replicate ks.length b) := hk
      have p := calls_does ks f size b hk' h0 hb
      have := p.row (.call n ks.length) rfl rfl rfl rfl (fun e => nomatch e) (fun s e => nomatch e) (fun s e => nomatch e)
      show Does size b ((rowss ks f).flatten ++ [[.str "call", .int n, .int ((rowss ks f).length : Nat)]]) 1
      rw [hlen]
      exact this
theorem calls_does : ∀ (ks : List Pt) (f size b : Int), SOks size ks (List.replicate ks.length b) → 0 ≤ b → b ≤ size → Does size b (rowss ks f).flatten ks.length
  | [], f, size, b, _, _, _ => Does.nil
  | t :: r, f, size, b, h, h0, hb => by
    have p1 := rows_does t f size b h.1 h0 hb
    have p2 := calls_does r (f + (t.fns : Nat)) size b h.2 h0 hb
    have := p1.app p2
    rw [List.length_cons, Nat.add_comm]
    simpa [rowss] using this
end
end CP
set_option maxHeartbeats 4000000
namespace CP
open PySem L2 BV
seal PE PT PW PA PS PSs PTs PI PG PGs PO
abbrev s_law_cell_at : Stmt := BV.top 22
abbrev s_law_next : Stmt := BV.top 23
abbrev s_law_leaf : Stmt := BV.top 24
abbrev s_law_size : Stmt := BV.top 25
abbrev s_law_parts : Stmt := BV.top 26
theorem sc_law_cell_at : FnScope ["_law_script", "_law_k"] ["_law_script", "_law_k"] (defScope s_law_cell_at) := ⟨rfl, rfl, rfl, by decide +kernel, rfl, by decide +kernel, by decide +kernel⟩
theorem sc_law_next : FnScope ["_law_cells"] ["_law_cells"] (defScope s_law_next) := ⟨rfl, rfl, rfl, by decide +kernel, rfl, by decide +kernel, by decide +kernel⟩
theorem sc_law_leaf : FnScope ["_law_cell", "_law_bound", "_law_more"] ["_law_cell", "_law_bound"] (defScope s_law_leaf) := ⟨rfl, rfl, rfl, by decide +kernel, rfl, by decide +kernel, by decide +kernel⟩
theorem sc_law_size : FnScope ["_law_least", "_law_term_here", "_law_found", "_law_part"] ["_law_least", "_law_term_here"] (defScope s_law_size) := ⟨rfl, rfl, rfl, by decide +kernel, rfl, by decide +kernel, by decide +kernel⟩
theorem sc_law_parts : FnScope ["_law_term_here"] ["_law_term_here"] (defScope s_law_parts) := ⟨rfl, rfl, rfl, by decide +kernel, rfl, by decide +kernel, by decide +kernel⟩
namespace Pt
mutual
def dep : Pt → Nat
  | .node _ ks => 1 + deps ks
def deps : List Pt → Nat
  | [] => 0
  | t :: r => max t.dep (deps r)
end
theorem deps_le : ∀ {ks : List Pt} {k : Pt}, k ∈ ks → k.dep ≤ deps ks
  | [], k, h => by cases h
  | t :: r, k, h => by
    simp only [deps]
    rcases List.mem_cons.mp h with rfl | h
    · omega
    · have := deps_le h; omega
theorem deps_of : ∀ {ks : List Pt} {n : Nat}, (∀ k ∈ ks, k.dep ≤ n) → deps ks ≤ n
  | [], n, h => Nat.zero_le _
  | t :: r, n, h => by
    simp only [deps]
    have h1 := h t (List.mem_cons_self ..)
    have h2 := deps_of (ks := r) fun k hk => h k (List.mem_cons_of_mem _ hk)
    omega
theorem sizes_of : ∀ {ks : List Pt} {n : Nat}, (∀ k ∈ ks, k.size ≤ n) → sizes ks ≤ ks.length * n
  | [], n, h => Nat.zero_le _
  | t :: r, n, h => by
    simp only [sizes, List.length_cons, Nat.add_mul, Nat.one_mul]
    have h1 := h t (List.mem_cons_self ..)
    have h2 := sizes_of (ks := r) fun k hk => h k (List.mem_cons_of_mem _ hk)
    omega
end Pt
/-- all stays but what lies at l -/
def Kl (l : Addr) (H H' : Hp) : Prop := ∀ b o, H b = some o → b ≠ l → H' b = some o
theorem Kl.refl (l : Addr) (H : Hp) : Kl l H H := fun _ _ h _ => h
theorem Kl.trans {l : Addr} {H H1 H2 : Hp} (a : Kl l H H1) (b : Kl l H1 H2) : Kl l H H2 := fun c o h n => b c o (a c o h n) n
theorem Kl.of {l : Addr} {H H' : Hp} (h : Same H H') : Kl l H H' := fun b o q _ => h b o q
theorem Kl.upd {l : Addr} {H : Hp} (o : HO) : Kl l H (upd H l o) := fun b u q n => by rw [upd_ne n]; exact q
theorem Kl.tups {l : Addr} {H H' : Hp} {xs : List V} (k : Kl l H H') (h : H l = some (.lst xs)) : ∀ b xs, H b = some (.tup xs) → H' b = some (.tup xs) := fun b ys e => k b _ e (ne_of e h (by intro z; cases z))
theorem kit_ii {K : PySem.W.Frag} : PySem.W.kitOne K (.type "int") (.type "int") = some true := by rfl
theorem kit_ib {K : PySem.W.Frag} : PySem.W.kitOne K (.type "int") (.type "bool") = some false := by rfl
theorem kit_tt {K : PySem.W.Frag} : PySem.W.kitOne K (.type "tuple") (.type "tuple") = some true := rfl
section
variable {P : Program} {w : World} {K : PySem.W.Frag} {mg : Str → Option Value} {base : Heap} {f : Addr} {fd : FuncData} {f_law_parts : Addr} {d_law_parts : FuncData}
def spCell (K : PySem.W.Frag) : Sp := fun vs H Q _ => ∃ (a : Addr) (ns : List Int) (k : Int), vs = [.ref a, .int k] ∧ SqL K H a (ns.map V.int) ∧ 0 ≤ k ∧ ∀ n : Int, Q (.int n) H
theorem ok_law_cell_at (F : Fun K "_law_cell_at" "_law_cell_at" s_law_cell_at f fd) (B : BV.NoG mg) : FnOk P w K mg base CX0 1 f fd ["_law_script", "_law_k"] (spCell K) := by
  refine F.ok sc_law_cell_at (fun vs H Q E h => ?_) (fun cdv A outer s H vs Q E hr h => ?_)
  · obtain ⟨a, ns, k, rfl, _⟩ := h
    rfl
  obtain ⟨a, ns, k, rfl, hS, hk, q⟩ := h
  have nd := sc_law_cell_at.nd
  refine ⟨_, (pss_cons (ps_if (pt_cmpR op_lt (pv 1) (pe_callB (k_len (K := K)) rfl B.len_ bt_len (pa_cons (pv 0) pa_nil)) rfl) (pss_one (ps_ret (pe_ix (kIx (K := K) (w := w)) (pv 0) (pv 1) (fun _ _ => rfl)))) pss_nil)
      (pss_one (ps_ret pe_int))), ?_⟩
  refine ⟨_, rfl, _, rfl, _, _, rfl, .inl ⟨_, hS, rfl⟩, _, _, rfl, rfl, _, rfl, ite2 (fun c => ?_) (fun c => ?_)⟩
  · have c' : k < ((ns.map V.int).length : Nat) := of_decide_eq_true c
    rw [List.length_map] at c'
    have hk' : k.toNat < ns.length := by omega
    have e : atI (ns.map V.int) ((k.toNat : Nat) : Int) = some (.int ns[k.toNat]) := atI_nat (by rw [List.getElem?_map, List.getElem?_eq_getElem hk']; rfl)
    have ek : ((k.toNat : Nat) : Int) = k := by omega
    rw [ek] at e
    exact ⟨_, rfl, _, rfl, .inl ⟨_, _, _, _, rfl, rfl, hS, e, q _⟩⟩
  · exact q 0
def spNext : Sp := fun vs H Q _ => ∃ (l : Addr) (ns : List Int), vs = [.ref l] ∧ H l = some (.lst (ns.map V.int)) ∧ ∀ (c : Int) (ns' : List Int) H', Kl l H H' → H' l = some (.lst (ns'.map V.int)) → Q (.int c) H'
theorem ok_law_next (F : Fun K "_law_next" "_law_next" s_law_next f fd) : FnOk P w K mg base CX0 1 f fd ["_law_cells"] spNext := by
  refine F.ok sc_law_next (fun vs H Q E h => ?_) (fun cdv A outer s H vs Q E hr h => ?_)
  · obtain ⟨l, ns, rfl, _⟩ := h
    rfl
  obtain ⟨l, ns, rfl, hl, q⟩ := h
  have nd := sc_law_next.nd
  have hu := hr.units0
  refine ⟨_, (pss_cons (ps_if (pt_cmpR (kEqL (K := K) hu) (pv 0) (pe_lst pa_nil) rfl) (pss_one (ps_ret pe_int)) pss_nil)
      (pss_one (ps_ret (k_bm (K := K) PySem.F.plainAttrs_list PySem.F.slot_list_pop PySem.F.type_list_pop mt_popAt (pv 0) (pa_cons pe_int pa_nil))))), ?_⟩
  refine ⟨_, rfl, (by show 0 ≤ sizeLine; decide), fun e he => ?_⟩
  have s1 := same_new he (.lst [])
  cases ns with
  | nil => exact .inl ⟨l, e, [], rfl, rfl, SqL.of (s1 _ _ hl), SqL.of upd_same, rfl, _, rfl, ifT rfl (q 0 [] _ (.of s1) (s1 _ _ hl))⟩
  | cons n r =>
    refine .inr ⟨l, e, _, _, rfl, rfl, SqL.of (s1 _ _ hl), SqL.of upd_same, by simp, _, rfl, ifF Bool.false_ne_true ?_⟩
    exact ⟨_, rfl, .inl ⟨rfl, _, SqL.of (s1 _ _ hl)⟩, l, _, 0, 0, _, rfl, rfl, s1 _ _ hl, by decide, by decide, (ixN_seq (n := ((n :: r).map V.int).length) (i := 0) (j := 0) (by unfold ixN; rw [if_pos (by decide), if_pos (by simp only [List.map_cons, List.length_cons]; omega)]; rfl)).1, rfl, q n r _ ((Kl.of s1).trans (.upd _)) upd_same⟩
def spLeaf : Sp := fun vs H Q _ => ∃ c b : Int, vs = [.int c, .int b] ∧ ∀ t r H', Same H H' → PAt H' t r → t.size = 1 → t.dep = 1 → BT b t → Q r H'
theorem ok_law_leaf (F : Fun K "_law_leaf" "_law_leaf" s_law_leaf f fd) : FnOk P w K mg base CX0 1 f fd ["_law_cell", "_law_bound"] spLeaf := by
  refine F.ok sc_law_leaf (fun vs H Q E h => ?_) (fun cdv A outer s H vs Q E hr h => ?_)
  · obtain ⟨c, b, rfl, _⟩ := h
    rfl
  obtain ⟨c, b, rfl, q⟩ := h
  have nd := sc_law_leaf.nd
  have hu := hr.units0
  have q' : ∀ (lab : Lab) (xs : List V) (r : Addr) (H' : Hp), Same H H' → H' r = some (.tup xs) → Shp H' lab [] xs → BT b (.node lab []) → Q (.ref r) H' := fun lab xs r H' sm h1 h2 h3 => q (.node lab []) (.ref r) H' sm (.mk h1 h2 .nil) rfl rfl h3
  refine ⟨_, (pss_cons (ps_set (i := 2) nd rfl (Or.inl rfl) (pe_op op_fdiv (pv 0) pe_int))
      (pss_cons (ps_if (pt_cmpR (kEq (K := K) hu) (pe_op op_mod (pv 0) pe_int) pe_int rfl) (pss_one (ps_ret (pe_tup (pa_cons pe_str (pa_cons (pe_cmpR (kEq (K := K) hu) (pe_op op_mod (pv 2) pe_int) pe_int rfl) pa_nil))))) pss_nil)
      (pss_cons (ps_if (pt_cmpR (kEq (K := K) hu) (pe_op op_mod (pv 0) pe_int) pe_int rfl) (pss_one (ps_ret (pe_tup (pa_cons pe_str pa_nil)))) pss_nil)
      (pss_cons (ps_cut (ps_if (PW.pt (pw_and (pt_cmpR (kEq (K := K) hu) (pe_op op_mod (pv 0) pe_int) pe_int rfl) (pw_and1 (pt_cmpR op_gt (pv 1) pe_int rfl)))) (pss_one (ps_ret (pe_tup (pa_cons pe_str (pa_cons (pe_op op_mod (pv 2) (pv 1)) pa_nil))))) pss_nil))
      (pss_one (ps_ret (pe_tup (pa_cons pe_str (pa_cons (pe_op op_mod (pv 2) (pe_op op_pow pe_int pe_int)) pa_nil))))))))), ?_⟩
  refine ⟨_, rfl, _, _, rfl, rfl, ⟨by decide, by decide⟩, ?_⟩
  refine ⟨_, rfl, _, _, rfl, rfl, (by decide : (0 : Int) < 4), .inl ⟨rfl, _, rfl, ite2 (fun e => ?_) (fun e => ?_)⟩⟩
  · exact ⟨_, rfl, _, _, rfl, rfl, (by decide : (0 : Int) < 2), .inl ⟨rfl, two2, fun r hr0 => q' (.tru _) _ r _ (same_new hr0 _) upd_same (.tru _) (fun _ _ => ⟨trivial, trivial⟩)⟩⟩
  refine ⟨_, rfl, _, _, rfl, rfl, (by decide : (0 : Int) < 4), .inl ⟨rfl, _, rfl, ite2 (fun e => ?_) (fun e => ?_)⟩⟩
  · exact ⟨one1, fun r hr0 => q' .non _ r _ (same_new hr0 _) upd_same .non (fun _ _ => ⟨trivial, trivial⟩)⟩
  refine ⟨fun σ H' => σ = [some (.int c), some (.int b), some (.int (c / 4))] ∧ H = H', ?_, ?_⟩
  · refine ⟨_, rfl, _, _, rfl, rfl, (by decide : (0 : Int) < 4), .inl ⟨rfl, _, rfl, ite2 (fun e => ?_) (fun e => ?_)⟩⟩
    · refine ⟨_, rfl, _, _, rfl, rfl, _, rfl, ite2 (fun e2 => ?_) (fun e2 => ?_)⟩
      · have e2' : 0 < b := of_decide_eq_true e2
        exact ⟨_, rfl, _, rfl, _, _, rfl, rfl, e2', two2, fun r hr0 => q' (.slot _) _ r _ (same_new hr0 _) upd_same (.slot _) (fun _ _ => ⟨⟨Int.emod_nonneg _ (by omega), Int.emod_lt_of_pos _ e2'⟩, trivial⟩)⟩
      · exact ⟨rfl, rfl⟩
    · exact ifF Bool.false_ne_true ⟨rfl, rfl⟩
  rintro σ H' ⟨rfl, rfl⟩
  refine ⟨_, rfl, _, _, rfl, rfl, ⟨by decide, by decide, by decide⟩, _, _, rfl, rfl, (by decide : (0 : Int) < 10 ^ (12 : Int).toNat), two2, fun r hr0 => q' (.num _) _ r _ (same_new hr0 _) upd_same (.num _) (fun _ _ => ⟨trivial, trivial⟩)⟩
def spLP : Sp := fun vs H Q _ => ∃ a l xs ps, vs = [.ref a] ∧ H a = some (.tup xs) ∧ Shp H l ps xs ∧ ∀ r H', Same H H' → H r = none → H' r = some (.lst ps) → Q (.ref r) H'
theorem ok_law_parts (F : Fun K "_law_parts" "_law_parts" s_law_parts f fd) (B : BV.NoG mg) : FnOk P w K mg base CX0 1 f fd ["_law_term_here"] spLP := by
  refine F.ok sc_law_parts (fun vs H Q E h => ?_) (fun cdv A outer s H vs Q E hr h => ?_)
  · obtain ⟨a, l, xs, ps, rfl, _⟩ := h
    rfl
  obtain ⟨a, l, xs, ps, rfl, ha, hs, q⟩ := h
  have nd := sc_law_parts.nd
  have hu := hr.units0
  have z4 : (4 : Nat) ≤ sizeLine := by decide
  obtain ⟨rest, hx⟩ := hs.head
  have hat : atI xs ((0 : Nat) : Int) = some (.str (form l)) := atI_nat (by rw [hx]; rfl)
  refine ⟨_, (pss_cons (ps_if (pt_cmpR (kIn (K := K) (w := w)) (pe_ix (kIx (K := K) (w := w)) (pv 0) pe_int (fun _ _ => rfl)) (pe_tup (pa_cons pe_str (pa_cons pe_str (pa_cons pe_str (pa_cons pe_str pa_nil))))) rfl) (pss_one (ps_ret (pe_lst pa_nil))) pss_nil)
      (pss_cons (ps_if (pt_cmpR (kEq (K := K) hu) (pe_ix (kIx (K := K) (w := w)) (pv 0) pe_int (fun _ _ => rfl)) pe_str rfl) (pss_one (ps_ret (pe_callTy (k_list (K := K)) rfl B.list_ bt_list (pa_cons (pe_ix (kIx (K := K) (w := w)) (pv 0) pe_int (fun _ _ => rfl)) pa_nil)))) pss_nil)
      (pss_cons (ps_if (pt_cmpR (kEq (K := K) hu) (pe_ix (kIx (K := K) (w := w)) (pv 0) pe_int (fun _ _ => rfl)) pe_str rfl) (pss_one (ps_ret (pe_lst (pa_cons (pe_ix (kIx (K := K) (w := w)) (pv 0) pe_int (fun _ _ => rfl)) pa_nil)))) pss_nil)
      (pss_cons (ps_if (pt_cmpR (kIn (K := K) (w := w)) (pe_ix (kIx (K := K) (w := w)) (pv 0) pe_int (fun _ _ => rfl)) (pe_tup (pa_cons pe_str (pa_cons pe_str (pa_cons pe_str pa_nil)))) rfl) (pss_one (ps_ret (pe_callTy (k_list (K := K)) rfl B.list_ bt_list (pa_cons (pe_slice (kSl (K := K)) (pv 0) (po_some pe_int) po_none) pa_nil)))) pss_nil)
      (pss_one (ps_ret (pe_callTy (k_list (K := K)) rfl B.list_ bt_list (pa_cons (pe_slice (kSl (K := K)) (pv 0) (po_some pe_int) po_none) pa_nil)))))))), ?_⟩
  refine ⟨_, rfl, .inr (.inl ⟨a, _, 0, _, rfl, rfl, SqT.of ha, hat, z4, fun p hp => .inr (.inl ⟨p, _, rfl, .inr (SqT.of upd_same), rfl, rfl, _, rfl, ?_⟩)⟩)⟩
  have s0 := same_new hp (.tup [.str "number", .str "truth", .str "none", .str "slot"])
  show if inV (.str (form l)) [.str "number", .str "truth", .str "none", .str "slot"] = true then _ else _
  have ha0 := s0 _ _ ha
  have hs0 := hs.mono (tups_of s0)
  have q0 : ∀ r H', Same (upd H p (.tup [.str "number", .str "truth", .str "none", .str "slot"])) H' → (upd H p (.tup [.str "number", .str "truth", .str "none", .str "slot"])) r = none → H' r = some (.lst ps) → Q (.ref r) H' := fun r H' sm h1 h2 => q r H' (s0.trans sm) (s0.free h1) h2
  change Same H (upd H p (.tup [.str "number", .str "truth", .str "none", .str "slot"])) at s0
  generalize upd H p (.tup [.str "number", .str "truth", .str "none", .str "slot"]) = H0 at s0 ha0 hs0 q0 ⊢
  cases hs0
  case num | tru | non | slot =>
    exact ifT rfl ⟨(by show 0 ≤ sizeLine; decide), fun r hr0 => q0 r _ (same_new hr0 _) hr0 upd_same⟩
  case call n c hn hc =>
    refine ifF Bool.false_ne_true ⟨_, rfl, .inr (.inl ⟨a, _, 0, _, rfl, rfl, SqT.of ha0, rfl, .inl ⟨rfl, _, rfl, ifT rfl ?_⟩⟩)⟩
    exact ⟨_, rfl, .inr (.inl ⟨a, _, 2, _, rfl, rfl, SqT.of ha0, rfl, _, _, rfl, .inr (SqT.of hc), fun r hr0 => q0 r _ (same_new hr0 _) hr0 upd_same⟩)⟩
  case fn ts n x p2 hts hp2 =>
    refine ifF Bool.false_ne_true ⟨_, rfl, .inr (.inl ⟨a, _, 0, _, rfl, rfl, SqT.of ha0, rfl, .inl ⟨rfl, _, rfl, ifF Bool.false_ne_true ⟨_, rfl, .inr (.inl ⟨a, _, 0, _, rfl, rfl, SqT.of ha0, rfl, .inl ⟨rfl, _, rfl, ifT rfl ?_⟩⟩)⟩⟩⟩)⟩
    exact ⟨_, rfl, .inr (.inl ⟨a, _, 3, _, rfl, rfl, SqT.of ha0, rfl, one1, fun r hr0 => q0 r _ (same_new hr0 _) hr0 upd_same⟩)⟩
  case two | one | let_ =>
    refine ifF Bool.false_ne_true ⟨_, rfl, .inr (.inl ⟨a, _, 0, _, rfl, rfl, SqT.of ha0, rfl, .inl ⟨rfl, _, rfl, ifF Bool.false_ne_true ⟨_, rfl, .inr (.inl ⟨a, _, 0, _, rfl, rfl, SqT.of ha0, rfl, .inl ⟨rfl, _, rfl, ifF Bool.false_ne_true ?_⟩⟩)⟩⟩⟩)⟩
    refine ⟨_, rfl, .inr (.inl ⟨a, _, 0, _, rfl, rfl, SqT.of ha0, rfl, three3, fun p2 hp2 => .inr (.inl ⟨p2, _, rfl, .inr (SqT.of upd_same), rfl, rfl, _, rfl, ifT rfl ?_⟩)⟩)⟩
    refine ⟨_, rfl, _, rfl, .inr ⟨a, _, rfl, SqT.of ((same_new hp2 _) _ _ ha0), notWhole (by decide) (Nat.succ_pos _) _, fun p3 hp3 => ?_⟩⟩
    exact ⟨_, _, rfl, .inr (SqT.of upd_same), fun r hr0 => q0 r _ ((same_new hp2 _).trans ((same_new hp3 _).trans (same_new hr0 _))) ((same_new hp2 _).free ((same_new hp3 _).free hr0)) upd_same⟩
  all_goals
    refine ifF Bool.false_ne_true ⟨_, rfl, .inr (.inl ⟨a, _, 0, _, rfl, rfl, SqT.of ha0, rfl, .inl ⟨rfl, _, rfl, ifF Bool.false_ne_true ⟨_, rfl, .inr (.inl ⟨a, _, 0, _, rfl, rfl, SqT.of ha0, rfl, .inl ⟨rfl, _, rfl, ifF Bool.false_ne_true ?_⟩⟩)⟩⟩⟩)⟩
    refine ⟨_, rfl, .inr (.inl ⟨a, _, 0, _, rfl, rfl, SqT.of ha0, rfl, three3, fun p2 hp2 => .inr (.inl ⟨p2, _, rfl, .inr (SqT.of upd_same), rfl, rfl, _, rfl, ifF Bool.false_ne_true ?_⟩)⟩)⟩
    refine ⟨_, rfl, _, rfl, .inr ⟨a, _, rfl, SqT.of ((same_new hp2 _) _ _ ha0), notWhole (by decide) (Nat.succ_pos _) _, fun p3 hp3 => ?_⟩⟩
    exact ⟨_, _, rfl, .inr (SqT.of upd_same), fun r hr0 => q0 r _ ((same_new hp2 _).trans ((same_new hp3 _).trans (same_new hr0 _))) ((same_new hp2 _).free ((same_new hp3 _).free hr0)) upd_same⟩
def spSize (n : Nat) : Sp := fun vs H Q _ => ∃ (m : Int) (t : Pt) (v : V), vs = [.int m, v] ∧ PAt H t v ∧ t.dep ≤ n ∧ ∀ (k : Int) H', Same H H' → m ≤ k → LB k t → Q (.int k) H'
theorem ok_law_size (F : Fun K "_law_size" "_law_size" s_law_size f fd) (B : BV.NoG mg) (b_law_size : Binds K fd ["_law_least", "_law_term_here"] []) (k_law_size : PySem.W.keepIn K (.ref f) = true) (m_law_size : mg "_law_size" = some (.ref f))
    (G_law_parts : FnOk P w K mg base CX0 1 f_law_parts d_law_parts ["_law_term_here"] spLP) (b_law_parts : Binds K d_law_parts ["_law_term_here"] []) (k_law_parts : PySem.W.keepIn K (.ref f_law_parts) = true) (m_law_parts : mg "_law_parts" = some (.ref f_law_parts)) :
    ∀ n : Nat, FnOk P w K mg base CX0 (n + 1) f fd ["_law_least", "_law_term_here"] (spSize n) := by
  intro n
  induction n with
  | zero =>
    refine F.ok sc_law_size (fun vs H Q E h => ?_) (fun cdv A outer s H vs Q E hr h => ?_)
    · obtain ⟨m, t, v, rfl, _⟩ := h
      rfl
    obtain ⟨m, t, v, rfl, _, hd, _⟩ := h
    cases t
    simp only [Pt.dep] at hd
    omega
  | succ n G_law_size =>
  refine F.ok sc_law_size (fun vs H Q E h => ?_) (fun cdv A outer s H vs Q E hr h => ?_)
  · obtain ⟨m, t, v, rfl, _⟩ := h
    rfl
  obtain ⟨m, t, v, rfl, ht, hd, q⟩ := h
  have nd := sc_law_size.nd
  have hu := hr.units0
  cases t with
  | node lab ks =>
  obtain ⟨pt, xs, vs, rfl, hpt, hs, hk⟩ := PAt.open ht
  have hk' : All2 (PAt H) ks vs := hk
  obtain ⟨rest, hx⟩ := hs.head
  have hat : atI xs ((0 : Nat) : Int) = some (.str (form lab)) := atI_nat (by rw [hx]; rfl)
  refine ⟨_, (pss_cons (ps_set (i := 2) nd rfl (Or.inl rfl) (pv 0))
      (pss_cons (ps_cut (ps_if (pt_cmpR (kEq (K := K) hu) (pe_ix (kIx (K := K) (w := w)) (pv 1) pe_int (fun _ _ => rfl)) pe_str rfl) (pss_one (ps_set (i := 2) nd rfl (Or.inl rfl) (pe_callB (k_max (K := K) rfl) rfl B.max_ bt_max (pa_cons (pv 2) (pa_cons (pe_op uAdd (pe_ix (kIx (K := K) (w := w)) (pv 1) pe_int (fun _ _ => rfl)) pe_int) pa_nil))))) pss_nil))
      (pss_cons (ps_if (pt_cmpR (kEq (K := K) hu) (pe_ix (kIx (K := K) (w := w)) (pv 1) pe_int (fun _ _ => rfl)) pe_str rfl) (pss_one (ps_ret (pv 2))) pss_nil)
      (pss_cons (ps_cut (ps_for PassesOwn.never rfl (k_ilist (K := K) (pe_call G_law_parts (hr.mono (by first | decide | omega)) rfl m_law_parts k_law_parts b_law_parts .nil pass0 (pa_cons (pv 1) pa_nil))) (pg_name (i := 3) nd rfl (Or.inl rfl)) (pss_one (ps_set (i := 2) nd rfl (Or.inl rfl) (pe_call G_law_size (hr.mono (by first | decide | omega)) rfl m_law_size k_law_size b_law_size .nil pass0 (pa_cons (pv 2) (pa_cons (pv 3) pa_nil)))))))
      (pss_one (ps_ret (pv 2))))))), ?_⟩
  refine ⟨_, rfl, ?_⟩
  refine ⟨fun σ H' => ∃ k, σ = [some (.int m), some (.ref pt), some (.int k), none] ∧ H = H' ∧ m ≤ k ∧ ∀ s, lab = .let_ s → s < k, ?_, ?_⟩
  · refine ⟨_, rfl, .inr (.inl ⟨pt, _, 0, _, rfl, rfl, SqT.of hpt, hat, .inl ⟨rfl, _, rfl, ite2 (fun e => ?_) (fun e => ?_)⟩⟩)⟩
    · have hl : ∃ (k : Int) (a b : V), xs = [.str "let", .int k, a, b] ∧ lab = .let_ k := by
        cases hs <;> first | exact ⟨_, _, _, rfl, rfl⟩ | exact absurd e Bool.false_ne_true
      obtain ⟨k, a, b, rfl, rfl⟩ := hl
      exact ⟨_, rfl, _, rfl, .inr (.inl ⟨pt, _, 1, _, rfl, rfl, SqT.of hpt, rfl, .inl ⟨_, _, rfl, rfl, .inl ⟨_, _, rfl, _, rfl, rfl, by split <;> omega, fun s e => by cases e; split <;> omega⟩⟩⟩)⟩
    · exact ⟨_, rfl, rfl, Int.le_refl _, fun s e2 => by subst e2; exact absurd rfl e⟩
  rintro σ H' ⟨k, rfl, rfl, hmk, hlet⟩
  refine ⟨_, rfl, .inr (.inl ⟨pt, _, 0, _, rfl, rfl, SqT.of hpt, hat, .inl ⟨rfl, _, rfl, ite2 (fun e => ?_) (fun e => ?_)⟩⟩)⟩
  · exact ⟨_, rfl, q _ _ (Same.refl _) hmk ⟨hlet, fun e2 => by rw [fn_dec] at e; rw [e] at e2; cases e2⟩⟩
  refine ⟨fun σ H' => ∃ k2 x, σ = [some (.int m), some (.ref pt), some (.int k2), x] ∧ Same H H' ∧ k ≤ k2 ∧ LBs k2 ks, ?_, ?_⟩
  · refine ⟨_, rfl, pt, lab, xs, vs, rfl, hpt, hs, fun r H1 s1 hr1 hr2 => ⟨r, rfl, ⟨vs, SqL.of hr2⟩, for_list (xs := vs) (fun i σ H' => ∃ k2 x, σ = [some (.int m), some (.ref pt), some (.int k2), x] ∧ Same H H' ∧ H' r = some (.lst vs) ∧ k ≤ k2 ∧ LBs k2 (ks.take i)) ⟨_, _, rfl, s1, hr2, Int.le_refl _, trivial⟩ ?_ ?_ ?_⟩⟩
    · rintro i σ H' _ ⟨k2, x, rfl, sm, hl, _⟩
      exact SqL.of hl
    · rintro i u σ H' hu2 ⟨k2, x, rfl, sm, hl, hkk, hLB⟩
      obtain ⟨t2, ht2, hp2⟩ := hk'.get hu2
      have hdk : t2.dep ≤ Pt.deps ks := Pt.deps_le (List.mem_of_getElem? ht2)
      have hd' : 1 + Pt.deps ks ≤ n + 1 := hd
      refine ⟨_, rfl, _, rfl, k2, t2, u, rfl, PAt.mono (tups_of sm) _ _ hp2, by omega, fun k3 H2 s2 hk3 hLB2 => ⟨_, _, rfl, sm.trans s2, s2 _ _ hl, by omega, ?_⟩⟩
      rw [BV.take_one ht2]
      refine LBs.of fun z hz => ?_
      rcases List.mem_append.mp hz with h | h
      · exact LB.mono hk3 _ (LBs.mem hLB z h)
      · rw [List.mem_singleton.mp h]; exact hLB2
    · rintro σ H' ⟨k2, x, rfl, sm, _, hkk, hLB⟩
      rw [List.take_of_length_le (by rw [hk'.len]; exact Nat.le_refl _)] at hLB
      exact ⟨k2, x, rfl, sm, hkk, hLB⟩
  rintro σ H' ⟨k2, x, rfl, sm, hkk, hLB⟩
  exact ⟨_, rfl, q _ _ sm (by omega) ⟨fun s e => by have := hlet s e; omega, fun _ => hLB⟩⟩
end
end CP
set_option maxHeartbeats 8000000
namespace CP
open PySem L2 BV
seal PE PT PW PA PS PSs PTs PI PG PGs PO
abbrev s_law_fn : Stmt := BV.top 27
abbrev s_law_term : Stmt := BV.top 29
abbrev s_law_call : Stmt := BV.top 28
theorem sc_law_call : FnScope ["_law_cells", "_law_deep", "_law_bound", "_law_cell", "_law_counts", "_law_number"] ["_law_cells", "_law_deep", "_law_bound", "_law_cell", "_law_counts"] (defScope s_law_call) := ⟨rfl, rfl, rfl, by decide +kernel, rfl, by decide +kernel, by decide +kernel⟩
theorem sc_law_fn : FnScope ["_law_cells", "_law_deep", "_law_bound", "_law_cell", "_law_counts", "_law_taken", "_law_rest", "_law_slot", "_law_body"] ["_law_cells", "_law_deep", "_law_bound", "_law_cell", "_law_counts"] (defScope s_law_fn) := ⟨rfl, rfl, rfl, by decide +kernel, rfl, by decide +kernel, by decide +kernel⟩
theorem sc_law_term : FnScope ["_law_cells", "_law_deep", "_law_bound", "_law_counts", "_law_cell", "_law_kind", "_law_more", "_law_first", "_law_test", "_law_one"] ["_law_cells", "_law_deep", "_law_bound", "_law_counts"] (defScope s_law_term) := ⟨rfl, rfl, rfl, by decide +kernel, rfl, by decide +kernel, by decide +kernel⟩
def szB : Nat → Nat
  | 0 => 1
  | n + 1 => 1 + 4 * szB n
theorem node_ok {n : Nat} {lab : Lab} {ks : List Pt} (hl : ks.length ≤ 4) (h : ∀ k ∈ ks, k.size ≤ szB n ∧ k.dep ≤ n + 1) : (Pt.node lab ks).size ≤ szB (n + 1) ∧ (Pt.node lab ks).dep ≤ n + 2 := by
  have h1 := Pt.sizes_of (ks := ks) fun k hk => (h k hk).1
  have h2 := Pt.deps_of (ks := ks) fun k hk => (h k hk).2
  have h3 : ks.length * szB n ≤ 4 * szB n := Nat.mul_le_mul_right _ hl
  exact ⟨show 1 + Pt.sizes ks ≤ 1 + 4 * szB n by omega, show 1 + Pt.deps ks ≤ n + 2 by omega⟩
theorem szB9 {n : Nat} (h : n ≤ 9) : szB n ≤ 400000 := by
  have hn : n = 0 ∨ n = 1 ∨ n = 2 ∨ n = 3 ∨ n = 4 ∨ n = 5 ∨ n = 6 ∨ n = 7 ∨ n = 8 ∨ n = 9 := by omega
  rcases hn with rfl | rfl | rfl | rfl | rfl | rfl | rfl | rfl | rfl | rfl <;> decide
theorem sign_at (m : Int) : ∃ (j d : Nat), j < 7 ∧ sgS j = ⟨#[d]⟩ ∧ atI ("<=:+-*/" : Str).cps.toList (m % 7) = some d := by
  have h0 := Int.emod_nonneg m (by decide : (7 : Int) ≠ 0)
  have h1 := Int.emod_lt_of_pos m (by decide : (0 : Int) < 7)
  have hj : m % 7 = 0 ∨ m % 7 = 1 ∨ m % 7 = 2 ∨ m % 7 = 3 ∨ m % 7 = 4 ∨ m % 7 = 5 ∨ m % 7 = 6 := by omega
  rcases hj with e | e | e | e | e | e | e <;> rw [e]
  · exact ⟨0, 60, by decide, by decide +kernel, by decide +kernel⟩
  · exact ⟨1, 61, by decide, by decide +kernel, by decide +kernel⟩
  · exact ⟨2, 58, by decide, by decide +kernel, by decide +kernel⟩
  · exact ⟨3, 43, by decide, by decide +kernel, by decide +kernel⟩
  · exact ⟨4, 45, by decide, by decide +kernel, by decide +kernel⟩
  · exact ⟨5, 42, by decide, by decide +kernel, by decide +kernel⟩
  · exact ⟨6, 47, by decide, by decide +kernel, by decide +kernel⟩
theorem word_at (m : Int) : ∃ j : Nat, j < 4 ∧ atI ((["head", "tail", "empty", "not"] : List Str).map V.str) (m % 4) = some (.str (wdS j)) := by
  have h0 := Int.emod_nonneg m (by decide : (4 : Int) ≠ 0)
  have h1 := Int.emod_lt_of_pos m (by decide : (0 : Int) < 4)
  have hj : m % 4 = 0 ∨ m % 4 = 1 ∨ m % 4 = 2 ∨ m % 4 = 3 := by omega
  rcases hj with e | e | e | e <;> rw [e]
  · exact ⟨0, by decide, rfl⟩
  · exact ⟨1, by decide, rfl⟩
  · exact ⟨2, by decide, rfl⟩
  · exact ⟨3, by decide, rfl⟩
/-- the counts of the functions: some, each from 0 to 4 -/
def CsOk (cs : List Int) : Prop := cs ≠ [] ∧ cs.length ≤ 1000 ∧ ∀ c ∈ cs, 0 ≤ c ∧ c ≤ 4
def Mk (b : Int) (n : Nat) (l : Addr) (H : Hp) (Q : V → Hp → Prop) : Prop := ∀ t r H' (ns' : List Int), Kl l H H' → H' l = some (.lst (ns'.map V.int)) → PAt H' t r → t.size ≤ szB n → t.dep ≤ n + 1 → BT b t → Q r H'
section
variable {P : Program} {w : World} {K : PySem.W.Frag} {mg : Str → Option Value} {base : Heap} {f : Addr} {fd : FuncData} {f_law_next f_law_leaf f_law_size f_law_fn f_law_term : Addr} {d_law_next d_law_leaf d_law_size d_law_fn d_law_term : FuncData}
def spTerm (n : Nat) : Sp := fun vs H Q _ => ∃ (l cl : Addr) (d b : Int) (ns cs : List Int), vs = [.ref l, .int d, .int b, .ref cl] ∧ d = (n : Nat) ∧ 0 ≤ b ∧ b + (n : Nat) ≤ 13 ∧ H l = some (.lst (ns.map V.int)) ∧ H cl = some (.lst (cs.map V.int)) ∧ cl ≠ l ∧ CsOk cs ∧ Mk b n l H Q
def spFn (n : Nat) : Sp := fun vs H Q _ => ∃ (l cl : Addr) (d b c : Int) (ns cs : List Int), vs = [.ref l, .int d, .int b, .int c, .ref cl] ∧ d = (n + 1 : Nat) ∧ 0 ≤ b ∧ b + (n + 1 : Nat) ≤ 13 ∧ H l = some (.lst (ns.map V.int)) ∧ H cl = some (.lst (cs.map V.int)) ∧ cl ≠ l ∧ CsOk cs ∧ Mk b (n + 1) l H Q
theorem ok_law_fn {n : Nat} (F : Fun K "_law_fn" "_law_fn" s_law_fn f fd) (B : BV.NoG mg)
    (G_law_size : FnOk P w K mg base CX0 15 f_law_size d_law_size ["_law_least", "_law_term_here"] (spSize 14)) (b_law_size : Binds K d_law_size ["_law_least", "_law_term_here"] []) (k_law_size : PySem.W.keepIn K (.ref f_law_size) = true) (m_law_size : mg "_law_size" = some (.ref f_law_size))
    (G_law_term : FnOk P w K mg base CX0 (2 * n + 15) f_law_term d_law_term ["_law_cells", "_law_deep", "_law_bound", "_law_counts"] (spTerm n)) (b_law_term : Binds K d_law_term ["_law_cells", "_law_deep", "_law_bound", "_law_counts"] []) (k_law_term : PySem.W.keepIn K (.ref f_law_term) = true) (m_law_term : mg "_law_term" = some (.ref f_law_term)) :
    FnOk P w K mg base CX0 (2 * n + 16) f fd ["_law_cells", "_law_deep", "_law_bound", "_law_cell", "_law_counts"] (spFn n) := by
  refine F.ok sc_law_fn (fun vs H Q E h => ?_) (fun cdv A outer s H vs Q E hr h => ?_)
  · obtain ⟨l, cl, d, b, c, ns, cs, rfl, _⟩ := h
    rfl
  obtain ⟨l, cl, d, b, c, ns, cs, rfl, hd, hb0, hbn, hl, hcl, ncl, hcs, q⟩ := h
  have nd := sc_law_fn.nd
  have hu := hr.units0
  have zz : (1000 : Nat) ≤ sizeLine := by decide
  have z4 : (4 : Nat) ≤ sizeLine := by decide
  refine ⟨_, (pss_cons (ps_set (i := 5) nd rfl (Or.inl rfl) (pe_lst pa_nil))
      (pss_cons (ps_set (i := 6) nd rfl (Or.inl rfl) (pv 3))
      (pss_cons (ps_cut (ps_for PassesOwn.never rfl (pi_range1 rfl B.range_ (pa_cons (pv 2) pa_nil)) (pg_name (i := 7) nd rfl (Or.inl rfl)) (pss_cons (ps_cut (ps_if (pt_cmpR (kEq (K := K) hu) (pe_op op_mod (pv 6) pe_int) pe_int rfl) (pss_one (ps_expr (k_bm (K := K) PySem.F.plainAttrs_list PySem.F.slot_list_append PySem.F.type_list_append mt_append (pv 5) (pa_cons (pv 7) pa_nil)))) pss_nil))
      (pss_one (ps_set (i := 6) nd rfl (Or.inl rfl) (pe_op op_fdiv (pv 6) pe_int))))))
      (pss_cons (ps_set (i := 8) nd rfl (Or.inl rfl) (pe_call G_law_term (hr.mono (by first | decide | omega)) rfl m_law_term k_law_term b_law_term .nil pass0 (pa_cons (pv 0) (pa_cons (pe_op op_sub (pv 1) pe_int) (pa_cons (pe_op uAdd (pe_callB (k_len (K := K)) rfl B.len_ bt_len (pa_cons (pv 5) pa_nil)) pe_int) (pa_cons (pv 4) pa_nil))))))
      (pss_one (ps_ret (pe_tup (pa_cons pe_str (pa_cons (pe_callTy (k_tuple (K := K)) rfl B.tuple_ bt_tuple (pa_cons (pv 5) pa_nil)) (pa_cons (pe_call G_law_size (hr.mono (by first | decide | omega)) rfl m_law_size k_law_size b_law_size .nil pass0 (pa_cons (pe_op uAdd (pe_callB (k_len (K := K)) rfl B.len_ bt_len (pa_cons (pv 5) pa_nil)) pe_int) (pa_cons (pv 8) pa_nil))) (pa_cons (pv 8) pa_nil))))))))))), ?_⟩
  refine ⟨(by show 0 ≤ sizeLine; decide), fun tl htl => ⟨_, rfl, ?_⟩⟩
  have ntl : tl ≠ l := fun e => by subst e; rw [hl] at htl; cases htl
  refine ⟨fun σ H' => ∃ (x y : Option V) (ts : List Int), σ = [some (.ref l), some (.int d), some (.int b), some (.int c), some (.ref cl), some (.ref tl), x, y, none] ∧ Same H H' ∧ H' tl = some (.lst (ts.map V.int)) ∧ ts.length ≤ b.toNat ∧ ∀ s ∈ ts, 0 ≤ s ∧ s < b, ?_, ?_⟩
  · refine ⟨_, rfl, b, rfl, by omega, by omega, for_range (n := b.toNat) (fun i σ H' => ∃ (x : Int) (y : Option V) (ts : List Int), σ = [some (.ref l), some (.int d), some (.int b), some (.int c), some (.ref cl), some (.ref tl), some (.int x), y, none] ∧ Same H H' ∧ H' tl = some (.lst (ts.map V.int)) ∧ ts.length ≤ i ∧ ∀ s ∈ ts, 0 ≤ s ∧ s < b) ?_ ?_ ?_⟩
    · exact ⟨c, none, [], rfl, same_new htl _, upd_same, Nat.le_refl _, by simp⟩
    · rintro i σ H' hi ⟨x, y, ts, rfl, sm, ht, hle, hts⟩
      refine ⟨fun σ H' => ∃ (ts : List Int), σ = [some (.ref l), some (.int d), some (.int b), some (.int c), some (.ref cl), some (.ref tl), some (.int x), some (.int (0 + (i : Nat))), none] ∧ Same H H' ∧ H' tl = some (.lst (ts.map V.int)) ∧ ts.length ≤ i + 1 ∧ ∀ s ∈ ts, 0 ≤ s ∧ s < b, ?_, ?_⟩
      · refine ⟨_, rfl, _, _, rfl, rfl, (by decide : (0 : Int) < 2), .inl ⟨rfl, _, rfl, ite2 (fun e => ?_) (fun e => ?_)⟩⟩
        · refine ⟨_, rfl, .inl ⟨rfl, _, SqL.of ht⟩, _, rfl, tl, _, _, rfl, rfl, ht, by rw [List.length_map]; omega, ts ++ [(0 : Int) + (i : Nat)], rfl, fun b o e => by rw [upd_ne (ne_of_none e htl)]; exact sm _ _ e, ?_, ?_, fun s hs => ?_⟩
          · rw [upd_same, List.map_append]; rfl
          · rw [List.length_append]; simp only [List.length_cons, List.length_nil]; omega
          · rcases List.mem_append.mp hs with h | h
            · exact hts s h
            · rw [List.mem_singleton.mp h]; omega
        · exact ⟨ts, rfl, sm, ht, by omega, hts⟩
      rintro σ H2 ⟨ts2, rfl, sm2, ht2, hle2, hts2⟩
      exact ⟨_, rfl, _, _, rfl, rfl, ⟨by decide, by decide⟩, _, _, ts2, rfl, sm2, ht2, hle2, hts2⟩
    · rintro σ H' ⟨x, y, ts, rfl, sm, ht, hle, hts⟩
      exact ⟨_, _, ts, rfl, sm, ht, hle, hts⟩
  rintro σ H1 ⟨x, y, ts, rfl, s1, ht1, hle, hts⟩
  have hl1 := s1 _ _ hl
  refine ⟨_, rfl, _, rfl, _, _, rfl, rfl, _, rfl, _, _, rfl, .inl ⟨_, SqL.of ht1, rfl⟩, .inl ⟨_, _, rfl, rfl, _, rfl, l, cl, _, _, ns, cs, rfl, by omega, by omega, by rw [List.length_map]; omega, hl1, s1 _ _ hcl, ncl, hcs, fun t r H2 ns2 k2 hl2 hp2 hsz hdp hco => ?_⟩⟩
  have ht2 := k2 _ _ ht1 ntl
  refine ⟨_, rfl, tl, _, rfl, .inl ⟨SqL.of ht2, fun p hp => ?_⟩⟩
  have s3 := same_new hp (.tup (ts.map V.int))
  refine ⟨_, rfl, _, _, rfl, .inl ⟨_, SqL.of (s3 _ _ ht2), rfl⟩, .inl ⟨_, _, rfl, rfl, _, rfl, _, t, r, rfl, PAt.mono (tups_of s3) _ _ hp2, by omega, fun m H4 s4 hm4 hLB4 => ⟨_, rfl, z4, fun p5 hp5 => ?_⟩⟩⟩
  rw [List.length_map] at hm4 hco
  have s5 := same_new hp5 (.tup [.str "fn", .ref p, .int m, r])
  have s35 := s3.trans (s4.trans s5)
  have ok := node_ok (lab := .fn ts m) (ks := [t]) (n := n) (by simp) (fun k hk => by rw [List.mem_singleton.mp hk]; exact ⟨hsz, hdp⟩)
  exact q (.node (.fn ts m) [t]) _ _ ns2 ((Kl.of s1).trans (k2.trans (.of s35))) (s35 _ _ hl2) (.mk upd_same (.fn ts m r (by omega) (s5 _ _ (s4 _ _ upd_same))) (.cons (PAt.mono (tups_of s35) _ _ hp2) .nil)) ok.1 ok.2 (BT.fn hts hm4 (by omega) hLB4 hco)
theorem ok_law_call {n : Nat} (F : Fun K "_law_call" "_law_call" s_law_call f fd) (B : BV.NoG mg)
    (G_law_term : FnOk P w K mg base CX0 (2 * n + 15) f_law_term d_law_term ["_law_cells", "_law_deep", "_law_bound", "_law_counts"] (spTerm n)) (b_law_term : Binds K d_law_term ["_law_cells", "_law_deep", "_law_bound", "_law_counts"] []) (k_law_term : PySem.W.keepIn K (.ref f_law_term) = true) (m_law_term : mg "_law_term" = some (.ref f_law_term)) :
    FnOk P w K mg base CX0 (2 * n + 16) f fd ["_law_cells", "_law_deep", "_law_bound", "_law_cell", "_law_counts"] (spFn n) := by
  refine F.ok sc_law_call (fun vs H Q E h => ?_) (fun cdv A outer s H vs Q E hr h => ?_)
  · obtain ⟨l, cl, d, b, c, ns, cs, rfl, _⟩ := h
    rfl
  obtain ⟨l, cl, d, b, c, ns, cs, rfl, hd, hb0, hbn, hl, hcl, ncl, hcs, q⟩ := h
  have nd := sc_law_call.nd
  have zz : (1000 : Nat) ≤ sizeLine := by decide
  obtain ⟨hc0, hc1, hc2⟩ := hcs
  have hlen : 0 < cs.length := List.length_pos_iff.mpr hc0
  have hpos : (0 : Int) < ((cs.map V.int).length : Nat) := by rw [List.length_map]; omega
  have m0 := Int.emod_nonneg c (b := ((cs.map V.int).length : Nat)) (by omega)
  have m1 := Int.emod_lt_of_pos c hpos
  have hml : ((cs.map V.int).length : Nat) = cs.length := List.length_map ..
  obtain ⟨cc, hcc, hat⟩ : ∃ cc : Int, cs[(c % ((cs.map V.int).length : Nat)).toNat]? = some cc ∧ atI (cs.map V.int) (c % ((cs.map V.int).length : Nat)) = some (.int cc) := by
    generalize c % ((cs.map V.int).length : Nat) = j at m0 m1
    have hj : j.toNat < cs.length := by omega
    refine ⟨cs[j.toNat], List.getElem?_eq_getElem hj, ?_⟩
    have ej : ((j.toNat : Nat) : Int) = j := by omega
    have h9 : atI (cs.map V.int) ((j.toNat : Nat) : Int) = some (.int cs[j.toNat]) := atI_nat (by rw [List.getElem?_map, List.getElem?_eq_getElem hj]; rfl)
    rw [ej] at h9
    exact h9
  have hccb := hc2 cc (List.mem_of_getElem? hcc)
  refine ⟨_, (pss_cons (ps_set (i := 5) nd rfl (Or.inl rfl) (pe_op op_mod (pv 3) (pe_callB (k_len (K := K)) rfl B.len_ bt_len (pa_cons (pv 4) pa_nil))))
      (pss_one (ps_ret (pe_tup (pa_cons pe_str (pa_cons (pv 5) (pa_cons (pe_callTy (k_tuple (K := K)) rfl B.tuple_ bt_tuple (pa_cons (pe_comp (CompScope.mk (N := ["_law_cells", "_law_deep", "_law_bound", "_law_cell", "_law_counts", "_law_number"]) (sc := defScope s_law_call) (caps := [0, 2, 4, 1]) (ns := ["_law_cells", "_law_bound", "_law_counts", "_law_deep"]) (by decide +kernel) rfl (by decide +kernel) rfl (by decide +kernel) rfl (by decide +kernel) (by decide +kernel)) rfl rfl rfl (pi_range1 rfl B.range_ (pa_cons (pe_ix (kIx (K := K) (w := w)) (pv 4) (pv 5) (fun _ _ => rfl)) pa_nil)) (fun _ _ _ _ _ => pts_nil) (fun _ _ _ _ _ => (pe_call G_law_term (hr.mono (by first | decide | omega)) rfl m_law_term k_law_term b_law_term .nil pass0 (pa_cons (pv 1) (pa_cons (pe_op op_sub (pv 4) pe_int) (pa_cons (pv 2) (pa_cons (pv 3) pa_nil))))))) pa_nil)) pa_nil))))))), ?_⟩
  refine ⟨_, rfl, _, rfl, _, _, rfl, .inl ⟨_, SqL.of hcl, rfl⟩, _, _, rfl, rfl, hpos, ?_⟩
  refine ⟨_, rfl, _, rfl, _, rfl, .inl ⟨cl, _, _, _, rfl, rfl, SqL.of hcl, hat, _, rfl, by omega, by omega, ?_⟩⟩
  refine comp_range (n := cc.toNat) (fun j ys H' => ∃ (ts : List Pt) (ns' : List Int), Kl l H H' ∧ H' l = some (.lst (ns'.map V.int)) ∧ All2 (PAt H') ts ys ∧ ts.length = j ∧ ∀ k ∈ ts, (k.size ≤ szB n ∧ k.dep ≤ n + 1) ∧ BT b k) ?_ ?_ ?_ ?_
  · exact ⟨[], ns, .refl _ _, hl, .nil, rfl, by simp⟩
  · rintro i ys H2 hi ⟨ts, ns2, k2, hl2, hA, hln, hk⟩
    have := hA.len
    omega
  · rintro i ys H2 hi ⟨ts, ns2, k2, hl2, hA, hln, hk⟩
    refine noTest ?_
    refine ⟨_, rfl, _, rfl, _, _, rfl, rfl, _, rfl, _, rfl, l, cl, _, _, ns2, cs, rfl, by omega, hb0, by omega, hl2, k2 _ _ hcl ncl, ncl, ⟨hc0, hc1, hc2⟩, fun t1 r1 H3 ns3 k3 hl3 hp1 hs1 hd1 hco1 => ?_⟩
    refine ⟨ts ++ [t1], ns3, k2.trans k3, hl3, (hA.imp fun a b h => PAt.mono (k3.tups hl2) _ _ h).app (.cons hp1 .nil), by rw [List.length_append, hln]; rfl, fun k hk2 => ?_⟩
    rcases List.mem_append.mp hk2 with h | h
    · exact hk k h
    · rw [List.mem_singleton.mp h]; exact ⟨⟨hs1, hd1⟩, hco1⟩
  · rintro ys H2 ⟨ts, ns2, k2, hl2, hA, hln, hk⟩ D hD
    have hAl := hA.len
    have s3 := same_new hD (.lst ys)
    refine ⟨D, ys, rfl, .inl ⟨SqL.of upd_same, fun p1 hp1 => ⟨three3, fun p hp => ?_⟩⟩⟩
    have s4 := s3.trans (same_new hp1 (.tup ys))
    have s5 := s4.trans (same_new hp (.tup [.str "call", .int (c % ((cs.map V.int).length : Nat)), .ref p1]))
    have ok := node_ok (lab := .call (c % ((cs.map V.int).length : Nat))) (ks := ts) (n := n) (by omega) fun k h => (hk k h).1
    refine q (.node (.call (c % ((cs.map V.int).length : Nat))) ts) (.ref p) _ ns2 (k2.trans (.of s5)) (s5 _ _ hl2) (.mk upd_same (.call _ ys (by omega) ((same_new hp _) _ _ upd_same)) (hA.imp fun a b h => PAt.mono (tups_of s5) _ _ h)) ok.1 ok.2 (BT.call fun k h => (hk k h).2)
end
end CP
set_option maxHeartbeats 8000000
namespace CP
open PySem L2 BV
seal PE PT PW PA PS PSs PTs PI PG PGs PO
section
variable {P : Program} {w : World} {K : PySem.W.Frag} {mg : Str → Option Value} {base : Heap} {f : Addr} {fd : FuncData} {f_law_next f_law_leaf f_law_size f_law_fn f_law_call f_law_term : Addr} {d_law_next d_law_leaf d_law_size d_law_fn d_law_call d_law_term : FuncData}
def spVoid : Sp := fun _ _ _ _ => False
theorem ok_void {CX : CXT} {k : Nat} {f : Addr} {fd : FuncData} {ps : List Str} : FnOk P w K mg base CX k f fd ps spVoid := ⟨fun _ _ _ _ h => h.elim, fun _ _ _ _ _ _ _ _ _ _ _ _ _ h => h.elim⟩
theorem dec_lt {i j : Int} (h : i < j) : decide (i < j) = true := decide_eq_true h
def stT (l cl : Addr) (d b : Int) (a1 a2 a3 a4 a5 a6 : Option V) : St := [some (.ref l), some (.int d), some (.int b), some (.ref cl), a1, a2, a3, a4, a5, a6]
theorem ok_law_term (F : Fun K "_law_term" "_law_term" s_law_term f fd) (B : BV.NoG mg) (b_law_term : Binds K fd ["_law_cells", "_law_deep", "_law_bound", "_law_counts"] []) (k_law_term : PySem.W.keepIn K (.ref f) = true) (m_law_term : mg "_law_term" = some (.ref f))
    (G_law_next : FnOk P w K mg base CX0 1 f_law_next d_law_next ["_law_cells"] spNext) (b_law_next : Binds K d_law_next ["_law_cells"] []) (k_law_next : PySem.W.keepIn K (.ref f_law_next) = true) (m_law_next : mg "_law_next" = some (.ref f_law_next))
    (G_law_leaf : FnOk P w K mg base CX0 1 f_law_leaf d_law_leaf ["_law_cell", "_law_bound"] spLeaf) (b_law_leaf : Binds K d_law_leaf ["_law_cell", "_law_bound"] []) (k_law_leaf : PySem.W.keepIn K (.ref f_law_leaf) = true) (m_law_leaf : mg "_law_leaf" = some (.ref f_law_leaf))
    (GC : ∀ n : Nat, FnOk P w K mg base CX0 (2 * n + 15) f fd ["_law_cells", "_law_deep", "_law_bound", "_law_counts"] (spTerm n) → FnOk P w K mg base CX0 (2 * n + 16) f_law_call d_law_call ["_law_cells", "_law_deep", "_law_bound", "_law_cell", "_law_counts"] (spFn n)) (b_law_call : Binds K d_law_call ["_law_cells", "_law_deep", "_law_bound", "_law_cell", "_law_counts"] []) (k_law_call : PySem.W.keepIn K (.ref f_law_call) = true) (m_law_call : mg "_law_call" = some (.ref f_law_call))
    (GF : ∀ n : Nat, FnOk P w K mg base CX0 (2 * n + 15) f fd ["_law_cells", "_law_deep", "_law_bound", "_law_counts"] (spTerm n) → FnOk P w K mg base CX0 (2 * n + 16) f_law_fn d_law_fn ["_law_cells", "_law_deep", "_law_bound", "_law_cell", "_law_counts"] (spFn n)) (b_law_fn : Binds K d_law_fn ["_law_cells", "_law_deep", "_law_bound", "_law_cell", "_law_counts"] []) (k_law_fn : PySem.W.keepIn K (.ref f_law_fn) = true) (m_law_fn : mg "_law_fn" = some (.ref f_law_fn)) :
    ∀ n : Nat, FnOk P w K mg base CX0 (2 * n + 15) f fd ["_law_cells", "_law_deep", "_law_bound", "_law_counts"] (spTerm n) := by
  intro n
  induction n with
  | zero =>
    refine F.ok sc_law_term (fun vs H Q E h => ?_) (fun cdv A outer s H vs Q E hr h => ?_)
    · obtain ⟨l, cl, d, b, ns, cs, rfl, _⟩ := h
      rfl
    obtain ⟨l, cl, d, b, ns, cs, rfl, hd, hb0, hbn, hl, hcl, ncl, hcs, q⟩ := h
    subst hd
    have nd := sc_law_term.nd
    have hu := hr.units0
    have G_law_term : FnOk P w K mg base CX0 13 f fd ["_law_cells", "_law_deep", "_law_bound", "_law_counts"] spVoid := ok_void
    have G_law_fn : FnOk P w K mg base CX0 13 f_law_fn d_law_fn ["_law_cells", "_law_deep", "_law_bound", "_law_cell", "_law_counts"] spVoid := ok_void
    have G_law_call : FnOk P w K mg base CX0 13 f_law_call d_law_call ["_law_cells", "_law_deep", "_law_bound", "_law_cell", "_law_counts"] spVoid := ok_void
    refine ⟨_, (pss_cons (ps_set (i := 4) nd rfl (Or.inl rfl) (pe_call G_law_next (hr.mono (by first | decide | omega)) rfl m_law_next k_law_next b_law_next .nil pass0 (pa_cons (pv 0) pa_nil)))
      (pss_cons (ps_set (i := 5) nd rfl (Or.inl rfl) (pe_op op_mod (pv 4) pe_int))
      (pss_cons (ps_set (i := 6) nd rfl (Or.inl rfl) (pe_op op_fdiv (pv 4) pe_int))
      (pss_cons (ps_cut (ps_if (PW.pt (pw_or (pt_cmpR (kEq (K := K) hu) (pv 1) pe_int rfl) (pw_or1 (pt_cmpR op_lt (pv 5) pe_int rfl)))) (pss_one (ps_ret (pe_call G_law_leaf (hr.mono (by first | decide | omega)) rfl m_law_leaf k_law_leaf b_law_leaf .nil pass0 (pa_cons (pv 6) (pa_cons (pv 2) pa_nil))))) pss_nil))
      (pss_cons (ps_if (pt_cmpR op_lt (pv 5) pe_int rfl) (pss_cons (ps_set (i := 7) nd rfl (Or.inl rfl) (pe_call G_law_term (hr.mono (by first | decide | omega)) rfl m_law_term k_law_term b_law_term .nil pass0 (pa_cons (pv 0) (pa_cons (pe_op op_sub (pv 1) pe_int) (pa_cons (pv 2) (pa_cons (pv 3) pa_nil))))))
      (pss_one (ps_ret (pe_tup (pa_cons pe_str (pa_cons (pe_ix ix_str pe_str (pe_op op_mod (pv 6) pe_int) (fun _ _ => rfl)) (pa_cons (pv 7) (pa_cons (pe_call G_law_term (hr.mono (by first | decide | omega)) rfl m_law_term k_law_term b_law_term .nil pass0 (pa_cons (pv 0) (pa_cons (pe_op op_sub (pv 1) pe_int) (pa_cons (pv 2) (pa_cons (pv 3) pa_nil))))) pa_nil)))))))) pss_nil)
      (pss_cons (ps_if (pt_cmpR (kEq (K := K) hu) (pv 5) pe_int rfl) (pss_one (ps_ret (pe_tup (pa_cons pe_str (pa_cons (pe_ix (kIx (K := K) (w := w)) (pe_lst (pa_strs rfl)) (pe_op op_mod (pv 6) pe_int) (fun _ _ => rfl)) (pa_cons (pe_call G_law_term (hr.mono (by first | decide | omega)) rfl m_law_term k_law_term b_law_term .nil pass0 (pa_cons (pv 0) (pa_cons (pe_op op_sub (pv 1) pe_int) (pa_cons (pv 2) (pa_cons (pv 3) pa_nil))))) pa_nil)))))) pss_nil)
      (pss_cons (ps_if (pt_cmpR op_lt (pv 5) pe_int rfl) (pss_cons (ps_set (i := 8) nd rfl (Or.inl rfl) (pe_call G_law_term (hr.mono (by first | decide | omega)) rfl m_law_term k_law_term b_law_term .nil pass0 (pa_cons (pv 0) (pa_cons (pe_op op_sub (pv 1) pe_int) (pa_cons (pv 2) (pa_cons (pv 3) pa_nil))))))
      (pss_cons (ps_set (i := 9) nd rfl (Or.inl rfl) (pe_call G_law_term (hr.mono (by first | decide | omega)) rfl m_law_term k_law_term b_law_term .nil pass0 (pa_cons (pv 0) (pa_cons (pe_op op_sub (pv 1) pe_int) (pa_cons (pv 2) (pa_cons (pv 3) pa_nil))))))
      (pss_one (ps_ret (pe_tup (pa_cons pe_str (pa_cons (pv 8) (pa_cons (pv 9) (pa_cons (pe_call G_law_term (hr.mono (by first | decide | omega)) rfl m_law_term k_law_term b_law_term .nil pass0 (pa_cons (pv 0) (pa_cons (pe_op op_sub (pv 1) pe_int) (pa_cons (pv 2) (pa_cons (pv 3) pa_nil))))) pa_nil))))))))) pss_nil)
      (pss_cons (ps_if (pt_cmpR op_lt (pv 5) pe_int rfl) (pss_cons (ps_set (i := 7) nd rfl (Or.inl rfl) (pe_call G_law_term (hr.mono (by first | decide | omega)) rfl m_law_term k_law_term b_law_term .nil pass0 (pa_cons (pv 0) (pa_cons (pe_op op_sub (pv 1) pe_int) (pa_cons (pv 2) (pa_cons (pv 3) pa_nil))))))
      (pss_one (ps_ret (pe_tup (pa_cons pe_str (pa_cons (pv 2) (pa_cons (pv 7) (pa_cons (pe_call G_law_term (hr.mono (by first | decide | omega)) rfl m_law_term k_law_term b_law_term .nil pass0 (pa_cons (pv 0) (pa_cons (pe_op op_sub (pv 1) pe_int) (pa_cons (pe_op uAdd (pv 2) pe_int) (pa_cons (pv 3) pa_nil))))) pa_nil)))))))) pss_nil)
      (pss_cons (ps_if (pt_cmpR (kEq (K := K) hu) (pv 5) pe_int rfl) (pss_one (ps_ret (pe_call G_law_fn (hr.mono (by first | decide | omega)) rfl m_law_fn k_law_fn b_law_fn .nil pass0 (pa_cons (pv 0) (pa_cons (pv 1) (pa_cons (pv 2) (pa_cons (pv 6) (pa_cons (pv 3) pa_nil)))))))) pss_nil)
      (pss_cons (ps_if (pt_cmpR (kEq (K := K) hu) (pv 5) pe_int rfl) (pss_cons (ps_set (i := 7) nd rfl (Or.inl rfl) (pe_call G_law_term (hr.mono (by first | decide | omega)) rfl m_law_term k_law_term b_law_term .nil pass0 (pa_cons (pv 0) (pa_cons (pe_op op_sub (pv 1) pe_int) (pa_cons (pv 2) (pa_cons (pv 3) pa_nil))))))
      (pss_one (ps_ret (pe_tup (pa_cons pe_str (pa_cons (pv 7) (pa_cons (pe_call G_law_term (hr.mono (by first | decide | omega)) rfl m_law_term k_law_term b_law_term .nil pass0 (pa_cons (pv 0) (pa_cons (pe_op op_sub (pv 1) pe_int) (pa_cons (pv 2) (pa_cons (pv 3) pa_nil))))) pa_nil))))))) pss_nil)
      (pss_one (ps_ret (pe_call G_law_call (hr.mono (by first | decide | omega)) rfl m_law_call k_law_call b_law_call .nil pass0 (pa_cons (pv 0) (pa_cons (pv 1) (pa_cons (pv 2) (pa_cons (pv 6) (pa_cons (pv 3) pa_nil)))))))))))))))))), ?_⟩
    refine ⟨_, rfl, l, ns, rfl, hl, fun c ns1 H1 k1 hl1 => ?_⟩
    refine ⟨_, rfl, _, _, rfl, rfl, (by decide : (0 : Int) < 12), ?_⟩
    refine ⟨_, rfl, _, _, rfl, rfl, ⟨by decide, by decide⟩, ?_⟩
    refine ⟨fun σ H' => False, ?_, fun _ _ z => z.elim⟩
    refine ⟨_, rfl, .inl ⟨rfl, _, rfl, ifT (by decide) (ifT rfl ?_)⟩⟩
    exact ⟨_, rfl, _, rfl, c / 12, b, rfl, fun t r H2 s2 hp hsz hdp hbt => q t r H2 ns1 (k1.trans (.of s2)) (s2 _ _ hl1) hp (by rw [hsz]; exact Nat.le_refl _) (by rw [hdp]; exact Nat.le_refl _) hbt⟩
  | succ n G_law_term =>
  have G_law_fn := GF n G_law_term
  have G_law_call := GC n G_law_term
  refine F.ok sc_law_term (fun vs H Q E h => ?_) (fun cdv A outer s H vs Q E hr h => ?_)
  · obtain ⟨l, cl, d, b, ns, cs, rfl, _⟩ := h
    rfl
  obtain ⟨l, cl, d, b, ns, cs, rfl, hd, hb0, hbn, hl, hcl, ncl, hcs, q⟩ := h
  have nd := sc_law_term.nd
  have hu := hr.units0
  have z4 : (4 : Nat) ≤ sizeLine := by decide
  have zz : (1000 : Nat) ≤ sizeLine := by decide
  have zt : ("<=:+-*/" : Str).length ≤ sizeLine := by decide +kernel
  have hd0 : ¬ decide (V.int d = V.int 0) = true := fun z => by have := of_decide_eq_true z; injection this with this; omega
  refine ⟨_, (pss_cons (ps_set (i := 4) nd rfl (Or.inl rfl) (pe_call G_law_next (hr.mono (by first | decide | omega)) rfl m_law_next k_law_next b_law_next .nil pass0 (pa_cons (pv 0) pa_nil)))
      (pss_cons (ps_set (i := 5) nd rfl (Or.inl rfl) (pe_op op_mod (pv 4) pe_int))
      (pss_cons (ps_set (i := 6) nd rfl (Or.inl rfl) (pe_op op_fdiv (pv 4) pe_int))
      (pss_cons (ps_cut (ps_if (PW.pt (pw_or (pt_cmpR (kEq (K := K) hu) (pv 1) pe_int rfl) (pw_or1 (pt_cmpR op_lt (pv 5) pe_int rfl)))) (pss_one (ps_ret (pe_call G_law_leaf (hr.mono (by first | decide | omega)) rfl m_law_leaf k_law_leaf b_law_leaf .nil pass0 (pa_cons (pv 6) (pa_cons (pv 2) pa_nil))))) pss_nil))
      (pss_cons (ps_if (pt_cmpR op_lt (pv 5) pe_int rfl) (pss_cons (ps_set (i := 7) nd rfl (Or.inl rfl) (pe_call G_law_term (hr.mono (by first | decide | omega)) rfl m_law_term k_law_term b_law_term .nil pass0 (pa_cons (pv 0) (pa_cons (pe_op op_sub (pv 1) pe_int) (pa_cons (pv 2) (pa_cons (pv 3) pa_nil))))))
      (pss_one (ps_ret (pe_tup (pa_cons pe_str (pa_cons (pe_ix ix_str pe_str (pe_op op_mod (pv 6) pe_int) (fun _ _ => rfl)) (pa_cons (pv 7) (pa_cons (pe_call G_law_term (hr.mono (by first | decide | omega)) rfl m_law_term k_law_term b_law_term .nil pass0 (pa_cons (pv 0) (pa_cons (pe_op op_sub (pv 1) pe_int) (pa_cons (pv 2) (pa_cons (pv 3) pa_nil))))) pa_nil)))))))) pss_nil)
      (pss_cons (ps_if (pt_cmpR (kEq (K := K) hu) (pv 5) pe_int rfl) (pss_one (ps_ret (pe_tup (pa_cons pe_str (pa_cons (pe_ix (kIx (K := K) (w := w)) (pe_lst (pa_strs rfl)) (pe_op op_mod (pv 6) pe_int) (fun _ _ => rfl)) (pa_cons (pe_call G_law_term (hr.mono (by first | decide | omega)) rfl m_law_term k_law_term b_law_term .nil pass0 (pa_cons (pv 0) (pa_cons (pe_op op_sub (pv 1) pe_int) (pa_cons (pv 2) (pa_cons (pv 3) pa_nil))))) pa_nil)))))) pss_nil)
      (pss_cons (ps_if (pt_cmpR op_lt (pv 5) pe_int rfl) (pss_cons (ps_set (i := 8) nd rfl (Or.inl rfl) (pe_call G_law_term (hr.mono (by first | decide | omega)) rfl m_law_term k_law_term b_law_term .nil pass0 (pa_cons (pv 0) (pa_cons (pe_op op_sub (pv 1) pe_int) (pa_cons (pv 2) (pa_cons (pv 3) pa_nil))))))
      (pss_cons (ps_set (i := 9) nd rfl (Or.inl rfl) (pe_call G_law_term (hr.mono (by first | decide | omega)) rfl m_law_term k_law_term b_law_term .nil pass0 (pa_cons (pv 0) (pa_cons (pe_op op_sub (pv 1) pe_int) (pa_cons (pv 2) (pa_cons (pv 3) pa_nil))))))
      (pss_one (ps_ret (pe_tup (pa_cons pe_str (pa_cons (pv 8) (pa_cons (pv 9) (pa_cons (pe_call G_law_term (hr.mono (by first | decide | omega)) rfl m_law_term k_law_term b_law_term .nil pass0 (pa_cons (pv 0) (pa_cons (pe_op op_sub (pv 1) pe_int) (pa_cons (pv 2) (pa_cons (pv 3) pa_nil))))) pa_nil))))))))) pss_nil)
      (pss_cons (ps_if (pt_cmpR op_lt (pv 5) pe_int rfl) (pss_cons (ps_set (i := 7) nd rfl (Or.inl rfl) (pe_call G_law_term (hr.mono (by first | decide | omega)) rfl m_law_term k_law_term b_law_term .nil pass0 (pa_cons (pv 0) (pa_cons (pe_op op_sub (pv 1) pe_int) (pa_cons (pv 2) (pa_cons (pv 3) pa_nil))))))
      (pss_one (ps_ret (pe_tup (pa_cons pe_str (pa_cons (pv 2) (pa_cons (pv 7) (pa_cons (pe_call G_law_term (hr.mono (by first | decide | omega)) rfl m_law_term k_law_term b_law_term .nil pass0 (pa_cons (pv 0) (pa_cons (pe_op op_sub (pv 1) pe_int) (pa_cons (pe_op uAdd (pv 2) pe_int) (pa_cons (pv 3) pa_nil))))) pa_nil)))))))) pss_nil)
      (pss_cons (ps_if (pt_cmpR (kEq (K := K) hu) (pv 5) pe_int rfl) (pss_one (ps_ret (pe_call G_law_fn (hr.mono (by first | decide | omega)) rfl m_law_fn k_law_fn b_law_fn .nil pass0 (pa_cons (pv 0) (pa_cons (pv 1) (pa_cons (pv 2) (pa_cons (pv 6) (pa_cons (pv 3) pa_nil)))))))) pss_nil)
      (pss_cons (ps_if (pt_cmpR (kEq (K := K) hu) (pv 5) pe_int rfl) (pss_cons (ps_set (i := 7) nd rfl (Or.inl rfl) (pe_call G_law_term (hr.mono (by first | decide | omega)) rfl m_law_term k_law_term b_law_term .nil pass0 (pa_cons (pv 0) (pa_cons (pe_op op_sub (pv 1) pe_int) (pa_cons (pv 2) (pa_cons (pv 3) pa_nil))))))
      (pss_one (ps_ret (pe_tup (pa_cons pe_str (pa_cons (pv 7) (pa_cons (pe_call G_law_term (hr.mono (by first | decide | omega)) rfl m_law_term k_law_term b_law_term .nil pass0 (pa_cons (pv 0) (pa_cons (pe_op op_sub (pv 1) pe_int) (pa_cons (pv 2) (pa_cons (pv 3) pa_nil))))) pa_nil))))))) pss_nil)
      (pss_one (ps_ret (pe_call G_law_call (hr.mono (by first | decide | omega)) rfl m_law_call k_law_call b_law_call .nil pass0 (pa_cons (pv 0) (pa_cons (pv 1) (pa_cons (pv 2) (pa_cons (pv 6) (pa_cons (pv 3) pa_nil)))))))))))))))))), ?_⟩
  refine ⟨_, rfl, l, ns, rfl, hl, fun c ns1 H1 k1 hl1 => ?_⟩
  refine ⟨_, rfl, _, _, rfl, rfl, (by decide : (0 : Int) < 12), ?_⟩
  refine ⟨_, rfl, _, _, rfl, rfl, ⟨by decide, by decide⟩, ?_⟩
  have g0 := Int.emod_nonneg c (by decide : (12 : Int) ≠ 0)
  have g1 := Int.emod_lt_of_pos c (by decide : (0 : Int) < 12)
  -- if deep == 0 or kind < 3
  refine ⟨fun σ H' => σ = stT l cl d b (some (.int c)) (some (.int (c % 12))) (some (.int (c / 12))) none none none ∧ H1 = H', ?_, ?_⟩
  · refine ⟨_, rfl, .inl ⟨rfl, _, rfl, ifF hd0 ⟨_, rfl, _, _, rfl, rfl, _, rfl, ite2 (fun e => ?_) (fun e => ?_)⟩⟩⟩
    · exact ⟨_, rfl, _, rfl, c / 12, b, rfl, fun t r H2 s2 hp hsz hdp hbt => q t r H2 ns1 (k1.trans (.of s2)) (s2 _ _ hl1) hp (by rw [hsz]; show 1 ≤ 1 + 4 * szB n; omega) (by rw [hdp]; omega) hbt⟩
    · exact ⟨rfl, rfl⟩
  rintro σ H' ⟨rfl, rfl⟩
  generalize c % 12 = kd at g0 g1 ⊢
  generalize c / 12 = mo
  -- the end of each way
  have fin : ∀ (lab : Lab) (ks : List Pt) (ps xs : List V) (p : Addr) (H' : Hp) (ns' : List Int), Kl l H H' → H' l = some (.lst (ns'.map V.int)) → H' p = some (.tup xs) → Shp H' lab ps xs → All2 (PAt H') ks ps → ks.length ≤ 4 → BT b (.node lab ks) → (∀ k ∈ ks, (k.size ≤ szB n ∧ k.dep ≤ n + 1) ∧ True) → Q (.ref p) H' := fun lab ks ps xs p H' ns' h1 h2 h3 h4 h5 h6 h8 h7 =>
    have ok := node_ok (lab := lab) h6 fun k hk => (h7 k hk).1
    q (.node lab ks) (.ref p) H' ns' h1 h2 (.mk h3 h4 h5) ok.1 ok.2 h8
  -- if kind < 4
  refine ⟨_, rfl, _, _, rfl, rfl, _, rfl, ite2 (fun e5 => ?_) (fun e5 => ?_)⟩
  · refine ⟨_, rfl, _, rfl, _, _, rfl, rfl, _, rfl, _, rfl, l, cl, _, _, ns1, cs, rfl, by omega, hb0, by omega, hl1, k1 _ _ hcl ncl, ncl, hcs, fun t1 r1 H2 ns2 k2 hl2 hp1 hs1 hd1 hco1 => ?_⟩
    obtain ⟨j, dd, hj, hdd, hat⟩ := sign_at mo
    refine ⟨_, rfl, _, _, rfl, rfl, (by decide : (0 : Int) < 7), _, _, dd, rfl, rfl, zt, hat, _, rfl, _, rfl, _, rfl, _, _, rfl, rfl, _, rfl, _, rfl, l, cl, _, _, ns2, cs, rfl, by omega, hb0, by omega, hl2, (k1.trans k2) _ _ hcl ncl, ncl, hcs, fun t2 r2 H3 ns3 k3 hl3 hp2 hs2 hd2 hco2 => ⟨z4, fun p hp => ?_⟩⟩
    rw [← hdd]
    have s4 := same_new hp (.tup [.str "two", .str (sgS j), r1, r2])
    exact fin (.two j) [t1, t2] [r1, r2] _ p _ ns3 (k1.trans (k2.trans (k3.trans (.of s4)))) (s4 _ _ hl3) upd_same (.two j r1 r2 hj)
      (.cons (PAt.mono (tups_of s4) _ _ (PAt.mono (k3.tups hl2) _ _ hp1)) (.cons (PAt.mono (tups_of s4) _ _ hp2) .nil)) (by simp) (.two (fun _ => rfl) (fun _ => trivial) (fun _ => rfl) rfl hco1 hco2)
      (fun k hk => by rcases List.mem_cons.mp hk with rfl | hk; exact ⟨⟨hs1, hd1⟩, trivial⟩; rw [List.mem_singleton.mp hk]; exact ⟨⟨hs2, hd2⟩, trivial⟩)
  -- if kind == 4
  refine ⟨_, rfl, .inl ⟨rfl, _, rfl, ite2 (fun e6 => ?_) (fun e6 => ?_)⟩⟩
  · obtain ⟨j, hj, hat⟩ := word_at mo
    refine ⟨z4, fun e he => ?_⟩
    have s0 := same_new he (.lst ((["head", "tail", "empty", "not"] : List Str).map V.str))
    refine ⟨_, rfl, _, _, rfl, rfl, (by decide : (0 : Int) < 4), .inl ⟨e, _, _, _, rfl, rfl, SqL.of upd_same, hat, ?_⟩⟩
    refine ⟨_, rfl, _, rfl, _, _, rfl, rfl, _, rfl, _, rfl, l, cl, _, _, ns1, cs, rfl, by omega, hb0, by omega, s0 _ _ hl1, s0 _ _ (k1 _ _ hcl ncl), ncl, hcs, fun t1 r1 H2 ns2 k2 hl2 hp1 hs1 hd1 hco1 => ⟨three3, fun p hp => ?_⟩⟩
    have s4 := same_new hp (.tup [.str "one", .str (wdS j), r1])
    exact fin (.one j) [t1] [r1] _ p _ ns2 (k1.trans ((Kl.of s0).trans (k2.trans (.of s4)))) (s4 _ _ hl2) upd_same (.one j r1 hj)
      (.cons (PAt.mono (tups_of s4) _ _ hp1) .nil) (by simp) (.one hco1) (fun k hk => by rw [List.mem_singleton.mp hk]; exact ⟨⟨hs1, hd1⟩, trivial⟩)
  -- IF
  refine ⟨_, rfl, _, _, rfl, rfl, _, rfl, ite2 (fun e7 => ?_) (fun e7 => ?_)⟩
  · refine ⟨_, rfl, _, rfl, _, _, rfl, rfl, _, rfl, _, rfl, l, cl, _, _, ns1, cs, rfl, by omega, hb0, by omega, hl1, k1 _ _ hcl ncl, ncl, hcs, fun t1 r1 H2 ns2 k2 hl2 hp1 hs1 hd1 hco1 => ?_⟩
    refine ⟨_, rfl, _, rfl, _, _, rfl, rfl, _, rfl, _, rfl, l, cl, _, _, ns2, cs, rfl, by omega, hb0, by omega, hl2, (k1.trans k2) _ _ hcl ncl, ncl, hcs, fun t2 r2 H3 ns3 k3 hl3 hp2 hs2 hd2 hco2 => ?_⟩
    refine ⟨_, rfl, _, rfl, _, rfl, _, rfl, _, _, rfl, rfl, _, rfl, _, rfl, l, cl, _, _, ns3, cs, rfl, by omega, hb0, by omega, hl3, (k1.trans (k2.trans k3)) _ _ hcl ncl, ncl, hcs, fun t3 r3 H4 ns4 k4 hl4 hp3 hs3 hd3 hco3 => ⟨z4, fun p hp => ?_⟩⟩
    have s4 := same_new hp (.tup [.str "if", r1, r2, r3])
    exact fin .ite [t1, t2, t3] [r1, r2, r3] _ p _ ns4 (k1.trans (k2.trans (k3.trans (k4.trans (.of s4))))) (s4 _ _ hl4) upd_same (.ite r1 r2 r3)
      (.cons (PAt.mono (tups_of s4) _ _ (PAt.mono (k4.tups hl3) _ _ (PAt.mono (k3.tups hl2) _ _ hp1))) (.cons (PAt.mono (tups_of s4) _ _ (PAt.mono (k4.tups hl3) _ _ hp2)) (.cons (PAt.mono (tups_of s4) _ _ hp3) .nil))) (by simp) (.ite hco1 hco2 hco3)
      (fun k hk => by
        rcases List.mem_cons.mp hk with rfl | hk
        · exact ⟨⟨hs1, hd1⟩, trivial⟩
        rcases List.mem_cons.mp hk with rfl | hk
        · exact ⟨⟨hs2, hd2⟩, trivial⟩
        rw [List.mem_singleton.mp hk]; exact ⟨⟨hs3, hd3⟩, trivial⟩)
  -- LET
  refine ⟨_, rfl, _, _, rfl, rfl, _, rfl, ite2 (fun e8 => ?_) (fun e8 => ?_)⟩
  · refine ⟨_, rfl, _, rfl, _, _, rfl, rfl, _, rfl, _, rfl, l, cl, _, _, ns1, cs, rfl, by omega, hb0, by omega, hl1, k1 _ _ hcl ncl, ncl, hcs, fun t1 r1 H2 ns2 k2 hl2 hp1 hs1 hd1 hco1 => ?_⟩
    refine ⟨_, rfl, _, rfl, _, rfl, _, rfl, _, _, rfl, rfl, _, rfl, .inl ⟨_, _, rfl, rfl, _, rfl, l, cl, _, _, ns2, cs, rfl, by omega, by omega, by omega, hl2, (k1.trans k2) _ _ hcl ncl, ncl, hcs, fun t2 r2 H3 ns3 k3 hl3 hp2 hs2 hd2 hco2 => ⟨z4, fun p hp => ?_⟩⟩⟩
    have s4 := same_new hp (.tup [.str "let", .int b, r1, r2])
    exact fin (.let_ b) [t1, t2] [r1, r2] _ p _ ns3 (k1.trans (k2.trans (k3.trans (.of s4)))) (s4 _ _ hl3) upd_same (.let_ b r1 r2)
      (.cons (PAt.mono (tups_of s4) _ _ (PAt.mono (k3.tups hl2) _ _ hp1)) (.cons (PAt.mono (tups_of s4) _ _ hp2) .nil)) (by simp) (.let_ hco1 hco2)
      (fun k hk => by rcases List.mem_cons.mp hk with rfl | hk; exact ⟨⟨hs1, hd1⟩, trivial⟩; rw [List.mem_singleton.mp hk]; exact ⟨⟨hs2, hd2⟩, trivial⟩)
  -- FN
  refine ⟨_, rfl, .inl ⟨rfl, _, rfl, ite2 (fun e9 => ?_) (fun e9 => ?_)⟩⟩
  · exact ⟨_, rfl, _, rfl, _, rfl, _, rfl, _, rfl, l, cl, d, b, mo, ns1, cs, rfl, hd, hb0, by omega, hl1, k1 _ _ hcl ncl, ncl, hcs, fun t r H2 ns2 k2 h2 h3 h4 h5 h6 => q t r H2 ns2 (k1.trans k2) h2 h3 h4 h5 h6⟩
  -- DO
  refine ⟨_, rfl, .inl ⟨rfl, _, rfl, ite2 (fun e10 => ?_) (fun e10 => ?_)⟩⟩
  · refine ⟨_, rfl, _, rfl, _, _, rfl, rfl, _, rfl, _, rfl, l, cl, _, _, ns1, cs, rfl, by omega, hb0, by omega, hl1, k1 _ _ hcl ncl, ncl, hcs, fun t1 r1 H2 ns2 k2 hl2 hp1 hs1 hd1 hco1 => ?_⟩
    refine ⟨_, rfl, _, rfl, _, rfl, _, _, rfl, rfl, _, rfl, _, rfl, l, cl, _, _, ns2, cs, rfl, by omega, hb0, by omega, hl2, (k1.trans k2) _ _ hcl ncl, ncl, hcs, fun t2 r2 H3 ns3 k3 hl3 hp2 hs2 hd2 hco2 => ⟨three3, fun p hp => ?_⟩⟩
    have s4 := same_new hp (.tup [.str "do", r1, r2])
    exact fin .do_ [t1, t2] [r1, r2] _ p _ ns3 (k1.trans (k2.trans (k3.trans (.of s4)))) (s4 _ _ hl3) upd_same (.do_ r1 r2)
      (.cons (PAt.mono (tups_of s4) _ _ (PAt.mono (k3.tups hl2) _ _ hp1)) (.cons (PAt.mono (tups_of s4) _ _ hp2) .nil)) (by simp) (.two (fun _ => rfl) (fun _ => trivial) (fun _ => rfl) rfl hco1 hco2)
      (fun k hk => by rcases List.mem_cons.mp hk with rfl | hk; exact ⟨⟨hs1, hd1⟩, trivial⟩; rw [List.mem_singleton.mp hk]; exact ⟨⟨hs2, hd2⟩, trivial⟩)
  -- a call
  exact ⟨_, rfl, _, rfl, _, rfl, _, rfl, _, rfl, l, cl, d, b, mo, ns1, cs, rfl, hd, hb0, by omega, hl1, k1 _ _ hcl ncl, ncl, hcs, fun t r H2 ns2 k2 h2 h3 h4 h5 h6 => q t r H2 ns2 (k1.trans k2) h2 h3 h4 h5 h6⟩
end
end CP
set_option maxHeartbeats 8000000
namespace CP
open PySem L2 BV
seal PE PT PW PA PS PSs PTs PI PG PGs PO
abbrev s_law_program : Stmt := BV.top 30
theorem sc_law_program : FnScope ["_law_script", "_law_many", "_law_counts", "_law_rest", "_law_k", "_law_functions", "_law_body"] ["_law_script"] (defScope s_law_program) := ⟨rfl, rfl, rfl, by decide +kernel, rfl, by decide +kernel, by decide +kernel⟩
theorem ints_of {zs : List V} {ns : List Int} (h : ∀ v ∈ zs, v ∈ ns.map V.int) : ∃ ms : List Int, zs = ms.map V.int := by
  induction zs with
  | nil => exact ⟨[], rfl⟩
  | cons z r ih =>
    obtain ⟨ms, rfl⟩ := ih fun v hv => h v (List.mem_cons_of_mem _ hv)
    obtain ⟨n, _, rfl⟩ := List.mem_map.mp (h z (List.mem_cons_self ..))
    exact ⟨n :: ms, rfl⟩
section
variable {P : Program} {w : World} {K : PySem.W.Frag} {mg : Str → Option Value} {base : Heap} {f : Addr} {fd : FuncData} {f_law_cell_at f_law_term f_law_size : Addr} {d_law_cell_at d_law_term d_law_size : FuncData}
/-- the functions that the law makes -/
structure GsOk (gs : List Fn3) : Prop where
  pos : 1 ≤ gs.length
  len : gs.length ≤ 12
  size : ∀ g ∈ gs, g.body.size ≤ szB 8
  dep : ∀ g ∈ gs, g.body.dep ≤ 9
  ok : ∀ g ∈ gs, 0 ≤ g.count ∧ g.count ≤ 4 ∧ g.count ≤ g.size ∧ SOk g.size g.count g.body
def spProgram (K : PySem.W.Frag) : Sp := fun vs H Q _ => ∃ (a : Addr) (ns : List Int), vs = [.ref a] ∧ SqL K H a (ns.map V.int) ∧ ns.length ≤ 63 ∧
  ∀ p fl gs fs (main : Int) H', GsOk gs → H' p = some (.tup [.ref fl, .int main]) → H' fl = some (.lst fs) → All2 (Fn3At H') gs fs → Q (.ref p) H'
theorem ok_law_program (F : Fun K "_law_program" "_law_program" s_law_program f fd) (B : BV.NoG mg)
    (G_law_cell_at : FnOk P w K mg base CX0 1 f_law_cell_at d_law_cell_at ["_law_script", "_law_k"] (spCell K)) (b_law_cell_at : Binds K d_law_cell_at ["_law_script", "_law_k"] []) (k_law_cell_at : PySem.W.keepIn K (.ref f_law_cell_at) = true) (m_law_cell_at : mg "_law_cell_at" = some (.ref f_law_cell_at))
    (G_law_term : FnOk P w K mg base CX0 31 f_law_term d_law_term ["_law_cells", "_law_deep", "_law_bound", "_law_counts"] (spTerm 8)) (b_law_term : Binds K d_law_term ["_law_cells", "_law_deep", "_law_bound", "_law_counts"] []) (k_law_term : PySem.W.keepIn K (.ref f_law_term) = true) (m_law_term : mg "_law_term" = some (.ref f_law_term))
    (G_law_size : FnOk P w K mg base CX0 15 f_law_size d_law_size ["_law_least", "_law_term_here"] (spSize 14)) (b_law_size : Binds K d_law_size ["_law_least", "_law_term_here"] []) (k_law_size : PySem.W.keepIn K (.ref f_law_size) = true) (m_law_size : mg "_law_size" = some (.ref f_law_size)) :
    FnOk P w K mg base CX0 32 f fd ["_law_script"] (spProgram K) := by
  refine F.ok sc_law_program (fun vs H Q E h => ?_) (fun cdv A outer s H vs Q E hr h => ?_)
  · obtain ⟨a, ns, rfl, _⟩ := h
    rfl
  obtain ⟨sa, ns, rfl, hS, hn, q⟩ := h
  have nd := sc_law_program.nd
  have hu := hr.units0
  have zz : (1000 : Nat) ≤ sizeLine := by decide
  refine ⟨_, (pss_cons (ps_set (i := 1) nd rfl (Or.inl rfl) (pe_op uAdd pe_int (pe_op op_mod (pe_call G_law_cell_at (hr.mono (by first | decide | omega)) rfl m_law_cell_at k_law_cell_at b_law_cell_at .nil pass0 (pa_cons (pv 0) (pa_cons pe_int pa_nil))) pe_int)))
      (pss_cons (ps_cut (ps_if (pt_cmpR (kEq (K := K) hu) (pe_op op_mod (pe_op op_fdiv (pe_call G_law_cell_at (hr.mono (by first | decide | omega)) rfl m_law_cell_at k_law_cell_at b_law_cell_at .nil pass0 (pa_cons (pv 0) (pa_cons pe_int pa_nil))) pe_int) pe_int) pe_int rfl) (pss_one (ps_set (i := 1) nd rfl (Or.inl rfl) (pe_op uAdd pe_int (pe_op op_mod (pe_op op_fdiv (pe_call G_law_cell_at (hr.mono (by first | decide | omega)) rfl m_law_cell_at k_law_cell_at b_law_cell_at .nil pass0 (pa_cons (pv 0) (pa_cons pe_int pa_nil))) pe_int) pe_int)))) pss_nil))
      (pss_cons (ps_set (i := 2) nd rfl (Or.inl rfl) (pe_lst pa_nil))
      (pss_cons (ps_set (i := 3) nd rfl (Or.inl rfl) (pe_call G_law_cell_at (hr.mono (by first | decide | omega)) rfl m_law_cell_at k_law_cell_at b_law_cell_at .nil pass0 (pa_cons (pv 0) (pa_cons pe_int pa_nil))))
      (pss_cons (ps_cut (ps_for PassesOwn.never rfl (pi_range1 rfl B.range_ (pa_cons (pv 1) pa_nil)) (pg_name (i := 4) nd rfl (Or.inl rfl)) (pss_cons (ps_expr (k_bm (K := K) PySem.F.plainAttrs_list PySem.F.slot_list_append PySem.F.type_list_append mt_append (pv 2) (pa_cons (pe_op op_mod (pe_op uAdd (pv 3) (pe_op uMul (pe_op uMul pe_int (pv 4)) (pe_callTy call_int_txt rfl B.int_ bt_int (pa_cons (pe_cmpR (kEq (K := K) hu) (pv 3) pe_int rfl) pa_nil)))) pe_int) pa_nil)))
      (pss_one (ps_set (i := 3) nd rfl (Or.inl rfl) (pe_op op_fdiv (pv 3) pe_int))))))
      (pss_cons (ps_set (i := 5) nd rfl (Or.inl rfl) (pe_lst pa_nil))
      (pss_cons (ps_cut (ps_for PassesOwn.never rfl (pi_range1 rfl B.range_ (pa_cons (pv 1) pa_nil)) (pg_name (i := 4) nd rfl (Or.inl rfl)) (pss_cons (ps_set (i := 6) nd rfl (Or.inl rfl) (pe_call G_law_term (hr.mono (by first | decide | omega)) rfl m_law_term k_law_term b_law_term .nil pass0 (pa_cons (pe_callTy (k_list (K := K)) rfl B.list_ bt_list (pa_cons (pe_step (K := K) (pe_slice (kSl (K := K)) (pv 0) (po_some pe_int) (po_some pe_int)) (pv 4) (pv 1)) pa_nil)) (pa_cons pe_int (pa_cons (pe_ix (kIx (K := K) (w := w)) (pv 2) (pv 4) (fun _ _ => rfl)) (pa_cons (pv 2) pa_nil))))))
      (pss_one (ps_expr (k_bm (K := K) PySem.F.plainAttrs_list PySem.F.slot_list_append PySem.F.type_list_append mt_append (pv 5) (pa_cons (pe_tup (pa_cons (pe_ix (kIx (K := K) (w := w)) (pv 2) (pv 4) (fun _ _ => rfl)) (pa_cons (pe_call G_law_size (hr.mono (by first | decide | omega)) rfl m_law_size k_law_size b_law_size .nil pass0 (pa_cons (pe_ix (kIx (K := K) (w := w)) (pv 2) (pv 4) (fun _ _ => rfl)) (pa_cons (pv 6) pa_nil))) (pa_cons (pv 6) pa_nil)))) pa_nil)))))))
      (pss_one (ps_ret (pe_tup (pa_cons (pv 5) (pa_cons (pe_op op_mod (pe_op op_fdiv (pe_call G_law_cell_at (hr.mono (by first | decide | omega)) rfl m_law_cell_at k_law_cell_at b_law_cell_at .nil pass0 (pa_cons (pv 0) (pa_cons pe_int pa_nil))) pe_int) (pv 1)) pa_nil)))))))))))), ?_⟩
  -- many
  refine ⟨_, rfl, sa, ns, 0, rfl, hS, by decide, fun c1 => ⟨_, _, rfl, rfl, (by decide : (0 : Int) < 4), .inl ⟨_, _, rfl, rfl, ?_⟩⟩⟩
  have a0 := Int.emod_nonneg c1 (by decide : (4 : Int) ≠ 0)
  have a1 := Int.emod_lt_of_pos c1 (by decide : (0 : Int) < 4)
  refine ⟨fun σ H' => ∃ m : Int, σ = [some (.ref sa), some (.int m), none, none, none, none, none] ∧ H = H' ∧ 1 ≤ m ∧ m ≤ 12, ?_, ?_⟩
  · refine ⟨_, rfl, sa, ns, 0, rfl, hS, by decide, fun c2 => ⟨_, _, rfl, rfl, ⟨by decide, by decide⟩, _, _, rfl, rfl, (by decide : (0 : Int) < 4), .inl ⟨rfl, _, rfl, ite2 (fun e => ?_) (fun e => ?_)⟩⟩⟩
    · refine ⟨_, rfl, sa, ns, 0, rfl, hS, by decide, fun c3 => ⟨_, _, rfl, rfl, ⟨by decide, by decide⟩, _, _, rfl, rfl, (by decide : (0 : Int) < 8), .inl ⟨_, _, rfl, rfl, _, rfl, rfl, ?_⟩⟩⟩
      have b0 := Int.emod_nonneg (c3 / 64) (by decide : (8 : Int) ≠ 0)
      have b1 := Int.emod_lt_of_pos (c3 / 64) (by decide : (0 : Int) < 8)
      omega
    · exact ⟨_, rfl, rfl, by omega, by omega⟩
  rintro σ H' ⟨m, rfl, rfl, hm1, hm2⟩
  -- counts = [], rest
  refine ⟨(by show 0 ≤ sizeLine; decide), fun cl hcl => ?_⟩
  have s0 := same_new hcl (.lst [])
  refine ⟨_, rfl, sa, ns, 1, rfl, s0.seq hS, by decide, fun c4 => ?_⟩
  refine ⟨fun σ H' => ∃ (y z : Option V) (cs : List Int), σ = [some (.ref sa), some (.int m), some (.ref cl), y, z, none, none] ∧ Same H H' ∧ H' cl = some (.lst (cs.map V.int)) ∧ cs.length = m.toNat ∧ ∀ c ∈ cs, 0 ≤ c ∧ c ≤ 4, ?_, ?_⟩
  · refine ⟨_, rfl, m, rfl, by omega, by omega, for_range (n := m.toNat) (fun i σ H' => ∃ (y : Int) (z : Option V) (cs : List Int), σ = [some (.ref sa), some (.int m), some (.ref cl), some (.int y), z, none, none] ∧ Same H H' ∧ H' cl = some (.lst (cs.map V.int)) ∧ cs.length = i ∧ ∀ c ∈ cs, 0 ≤ c ∧ c ≤ 4) ?_ ?_ ?_⟩
    · exact ⟨c4, none, [], rfl, s0, upd_same, rfl, by simp⟩
    · rintro i σ H' hi ⟨y, z, cs, rfl, sm, hc, hl, hb⟩
      refine ⟨_, rfl, .inl ⟨rfl, _, SqL.of hc⟩, _, rfl, _, rfl, .inl ⟨_, _, rfl, rfl, .inl ⟨by decide, by decide⟩, _, rfl, .inl ⟨rfl, .inl ⟨_, rfl, .inl ⟨_, _, rfl, rfl, .inr ?_, .inl ⟨_, _, rfl, rfl, _, _, rfl, rfl, (by decide : (0 : Int) < 5), cl, _, _, rfl, rfl, hc, by rw [List.length_map]; omega, ?_⟩⟩⟩⟩⟩⟩
      · split <;> exact ⟨by decide, by decide⟩
      generalize hw : (y + 3 * ((0 : Int) + (i : Nat)) * (if decide (V.int y = V.int 0) = true then 1 else 0)) % 5 = w5
      have w0 : 0 ≤ w5 := by rw [← hw]; exact Int.emod_nonneg _ (by decide)
      have w1 : w5 < 5 := by rw [← hw]; exact Int.emod_lt_of_pos _ (by decide)
      refine ⟨_, rfl, _, _, rfl, rfl, ⟨by decide, by decide⟩, _, _, cs ++ [w5], rfl, fun b o e => by rw [upd_ne (ne_of_none e hcl)]; exact sm _ _ e, ?_, by rw [List.length_append, hl]; rfl, fun c hc2 => ?_⟩
      · rw [upd_same, List.map_append, ← hw]
        rfl
      · rcases List.mem_append.mp hc2 with h | h
        · exact hb c h
        · rw [List.mem_singleton.mp h]; omega
    · rintro σ H' ⟨y, z, cs, rfl, sm, hc, hl, hb⟩
      exact ⟨_, _, cs, rfl, sm, hc, hl, hb⟩
  rintro σ H1 ⟨y1, z1, cs, rfl, s1, hc1, hcl1, hcb⟩
  have hcs : CsOk cs := ⟨by intro e; subst e; simp at hcl1; omega, by omega, hcb⟩
  -- functions = []
  refine ⟨(by show 0 ≤ sizeLine; decide), fun fl hfl => ?_⟩
  have s2 := same_new hfl (.lst [])
  have ncf : cl ≠ fl := fun e => by subst e; rw [hc1] at hfl; cases hfl
  refine ⟨fun σ H' => ∃ (y z u : Option V) (gs : List Fn3) (fs : List V), σ = [some (.ref sa), some (.int m), some (.ref cl), y, z, some (.ref fl), u] ∧ Same H H' ∧ H' fl = some (.lst fs) ∧ All2 (Fn3At H') gs fs ∧ GsOk gs, ?_, ?_⟩
  · refine ⟨_, rfl, m, rfl, by omega, by omega, for_range (n := m.toNat) (fun i σ H' => ∃ (y z u : Option V) (gs : List Fn3) (fs : List V), σ = [some (.ref sa), some (.int m), some (.ref cl), y, z, some (.ref fl), u] ∧ Same H H' ∧ H' cl = some (.lst (cs.map V.int)) ∧ H' fl = some (.lst fs) ∧ All2 (Fn3At H') gs fs ∧
        gs.map Fn3.count = cs.take i ∧ ∀ g ∈ gs, g.body.size ≤ szB 8 ∧ g.body.dep ≤ 9 ∧ 0 ≤ g.count ∧ g.count ≤ 4 ∧ g.count ≤ g.size ∧ SOk g.size g.count g.body) ?_ ?_ ?_⟩
    · exact ⟨_, _, none, [], [], rfl, s1.trans s2, s2 _ _ hc1, upd_same, .nil, by simp, by simp⟩
    · rintro i σ H' hi ⟨y, z, u, gs, fs, rfl, sm, hc, hf, hG, hgc, hgk⟩
      have hGl := hG.len
      have hgl : gs.length = i := by
        have h9 := congrArg List.length hgc
        rw [List.length_map, List.length_take] at h9
        omega
      have hic : i < cs.length := by omega
      have e0 : (0 : Int) + (i : Nat) = (i : Nat) := by omega
      have hat : atI (cs.map V.int) (0 + (i : Nat)) = some (.int cs[i]) := by rw [e0]; exact atI_nat (by rw [List.getElem?_map, List.getElem?_eq_getElem hic]; rfl)
      have hci := hcb cs[i] (List.getElem_mem hic)
      -- body = term(list(script[2:92][k::many]), 8, counts[k], counts)
      refine ⟨_, rfl, _, rfl, _, rfl, .inl ⟨sa, _, rfl, sm.seq hS, fun e1 he1 => ?_⟩⟩
      refine ⟨_, rfl, _, rfl, _, _, e1, _, rfl, rfl, by omega, rfl, SqL.of upd_same, fun e2 zs hzs hzl he2 => ⟨e2, _, rfl, .inl (SqL.of upd_same), fun l hl => ?_⟩⟩
      obtain ⟨ms, rfl⟩ := ints_of (ns := ns) fun v hv => List.mem_of_mem_drop (List.mem_of_mem_take (hzs v hv))
      have s3 := (same_new he1 (.lst (cutV (ns.map V.int) (some 2) (some 92)))).trans ((same_new he2 (.lst (ms.map V.int))).trans (same_new hl (.lst (ms.map V.int))))
      have hl3 : (upd (upd (upd H' e1 (.lst (cutV (ns.map V.int) (some 2) (some 92)))) e2 (.lst (ms.map V.int))) l (.lst (ms.map V.int))) l = some (.lst (ms.map V.int)) := upd_same
      have hlH : H' l = none := (same_new he1 _).free ((same_new he2 _).free hl)
      generalize upd (upd (upd H' e1 (.lst (cutV (ns.map V.int) (some 2) (some 92)))) e2 (.lst (ms.map V.int))) l (.lst (ms.map V.int)) = H3 at s3 hl3 ⊢
      have ncl : cl ≠ l := fun e => by subst e; rw [hc] at hlH; cases hlH
      have nfl : fl ≠ l := fun e => by subst e; rw [hf] at hlH; cases hlH
      refine ⟨_, rfl, _, rfl, .inl ⟨cl, _, _, _, rfl, rfl, SqL.of (s3 _ _ hc), hat, _, rfl, l, cl, 8, cs[i], ms, cs, rfl, rfl, hci.1, by omega, hl3, s3 _ _ hc, ncl, hcs, fun t r H4 ns4 k4 hl4 hp4 hsz4 hdp4 hco4 => ?_⟩⟩
      have sm4 : Same H H4 := fun b o e => k4 _ _ (s3 _ _ (sm _ _ e)) (ne_of_none (sm _ _ e) hlH)
      have hc4 := k4 _ _ (s3 _ _ hc) ncl
      have hf4 := k4 _ _ (s3 _ _ hf) nfl
      have m4 : ∀ b xs, H' b = some (.tup xs) → H4 b = some (.tup xs) := fun b xs e => k4.tups hl3 b xs (s3 _ _ e)
      -- functions.append((counts[k], size(counts[k], body), body))
      refine ⟨_, rfl, .inl ⟨rfl, _, SqL.of hf4⟩, _, rfl, _, rfl, .inl ⟨cl, _, _, _, rfl, rfl, SqL.of hc4, hat, _, rfl, _, rfl, .inl ⟨cl, _, _, _, rfl, rfl, SqL.of hc4, hat, _, rfl, _, t, r, rfl, hp4, by omega, fun k5 H5 s5 hk5 hLB5 => ⟨_, rfl, three3, fun p hp => ?_⟩⟩⟩⟩
      have s6 := same_new hp (.tup [.int cs[i], .int k5, r])
      refine ⟨fl, _, _, rfl, rfl, s6 _ _ (s5 _ _ hf4), by omega, ?_⟩
      have m7 : ∀ b xs, (upd H5 p (.tup [.int cs[i], .int k5, r])) b = some (.tup xs) → (upd (upd H5 p (.tup [.int cs[i], .int k5, r])) fl (.lst (fs ++ [.ref p]))) b = some (.tup xs) := fun b xs e => by
        rw [upd_ne (ne_of e (s6 _ _ (s5 _ _ hf4)) (by intro z; cases z))]; exact e
      refine ⟨_, _, _, gs ++ [⟨cs[i], k5, t⟩], fs ++ [.ref p], rfl, fun b o e => ?_, ?_, upd_same, ?_, ?_, fun g hg => ?_⟩
      · rw [upd_ne (fun z => ?_)]
        · exact s6 _ _ (s5 _ _ (sm4 _ _ e))
        · subst z; rw [s1 _ _ e] at hfl; cases hfl
      · rw [upd_ne ncf]; exact s6 _ _ (s5 _ _ hc4)
      · refine (hG.imp fun _ _ h => ((h.mono m4).mono (tups_of (s5.trans s6))).mono m7).app (.cons ⟨p, r, rfl, m7 _ _ upd_same, ?_⟩ .nil)
        exact PAt.mono m7 _ _ (PAt.mono (tups_of (s5.trans s6)) _ _ hp4)
      · rw [List.map_append, hgc, BV.take_one (List.getElem?_eq_getElem hic)]
        rfl
      · rcases List.mem_append.mp hg with h | h
        · exact hgk g h
        · rw [List.mem_singleton.mp h]; exact ⟨hsz4, hdp4, hci.1, hci.2, hk5, hco4 _ hLB5⟩
    · rintro σ H' ⟨y, z, u, gs, fs, rfl, sm, hc, hf, hG, hgc, hgk⟩
      rw [List.take_of_length_le (by omega)] at hgc
      have hgl : gs.length = m.toNat := by rw [← hcl1, ← hgc, List.length_map]
      exact ⟨y, z, u, gs, fs, rfl, sm, hf, hG, by omega, by omega, fun g h => (hgk g h).1, fun g h => (hgk g h).2.1, fun g h => (hgk g h).2.2⟩
  rintro σ H2 ⟨y, z, u, gs, fs, rfl, sm, hf, hG, hgs⟩
  refine ⟨_, rfl, _, rfl, sa, ns, 0, rfl, sm.seq hS, by decide, fun c5 => ⟨_, _, rfl, rfl, ⟨by decide, by decide⟩, _, rfl, _, _, rfl, rfl, (show (0 : Int) < m by omega), two2, fun p hp => ?_⟩⟩
  have s9 := same_new hp (.tup [.ref fl, .int (c5 / 4 % m)])
  exact q p fl gs fs _ _ hgs upd_same (s9 _ _ hf) (hG.imp fun _ _ h => h.mono (tups_of s9))
end
end CP
/-! the blocks that are made have heights -/
namespace CP
open PySem L2 BV
mutual
theorem SOk.fnl : ∀ (t x : Pt) (size b : Int), SOk size b t → x ∈ fnl t → ∃ ts n kb, x = .node (.fn ts n) [kb] ∧ (ts.length : Int) + 1 ≤ n ∧ ts.length ≤ 30 ∧ SOk n ((ts.length : Int) + 1) kb
  | .node l ks, x, size, b, h, hx => by
    rcases List.mem_append.mp (show x ∈ (if Pt.isFn l then [Pt.node l ks] else []) ++ fnls ks from hx) with h1 | h1
    · cases hb : Pt.isFn l
      · rw [hb] at h1; cases h1
      · rw [hb] at h1
        rw [List.mem_singleton.mp h1]
        have h3 := h.1
        have h2 := h.2
        cases l with
        | fn ts n =>
          match ks, h2 with
          | [kb], h2 => exact ⟨ts, n, kb, rfl, h3.2.1, h3.2.2, h2.1⟩
        | _ => cases hb
    · exact SOks.fnls ks x _ _ h.2 h1
theorem SOks.fnls : ∀ (ks : List Pt) (x : Pt) (size : Int) (bs : List Int), SOks size ks bs → x ∈ fnls ks → ∃ ts n kb, x = .node (.fn ts n) [kb] ∧ (ts.length : Int) + 1 ≤ n ∧ ts.length ≤ 30 ∧ SOk n ((ts.length : Int) + 1) kb
  | [], x, _, _, _, h => by cases h
  | t :: r, x, size, [], h, _ => h.elim
  | t :: r, x, size, b :: bs, h, hx => by
    rcases List.mem_append.mp (show x ∈ CP.fnl t ++ CP.fnls r from hx) with h1 | h1
    · exact SOk.fnl t x size b h.1 h1
    · exact SOks.fnls r x size bs h.2 h1
end
def ran (n : Nat) : List Int := (List.range n).map fun i => (0 : Int) + (i : Nat)
theorem ran_cov (n : Nat) : Cov (n : Nat) (ran n) := fun s h0 h1 => by
  refine List.mem_map.mpr ⟨s.toNat, List.mem_range.mpr (by omega), by omega⟩
theorem ran_len (n : Nat) : (ran n).length = n := by simp [ran]
/-- a line of rows that ends with back, and what is expected at each -/
structure Good (n : Nat) (size : Int) (R : Ln) : Prop where
  hd : ∃ k, R[0]? = some (⟨0, ran n⟩, k)
  ok : ∀ i c k, R[i]? = some (c, k) → RowC size c k ∧ (k = .back ↔ i = R.length - 1) ∧ (k = .back → c.h = 1) ∧ (∀ n, jump k = some n → ∃ c' k', R[i + 1 + n]? = some (c', k') ∧ Leads c k c') ∧ (falls k = true → ∃ c' k', R[i + 1]? = some (c', k') ∧ Leads c k c')
  rc : ∀ i, 0 < i → i < R.length → (∃ c k, R[i - 1]? = some (c, k) ∧ falls k = true) ∨ ∃ j n c k, R[j]? = some (c, k) ∧ jump k = some n ∧ j + 1 + n = i
theorem good_of {n : Nat} {size : Int} {L : Ln} {e : Crt} (h : Seg size ⟨0, ran n⟩ e L) (he : e.h = 1) : Good n size (L ++ [(e, .back)]) := by
  have hR : ∀ i c, (crts L e)[i]? = some c → ∃ k, (L ++ [(e, Rk.back)])[i]? = some (c, k) := fun i c hi => by
    unfold crts at hi
    by_cases hl : i < L.length
    · rw [List.getElem?_append_left (by rw [List.length_map]; exact hl), List.getElem?_map] at hi
      obtain ⟨⟨c', k⟩, hk, rfl⟩ := Option.map_eq_some_iff.mp hi
      exact ⟨k, by rw [List.getElem?_append_left hl]; exact hk⟩
    · rw [List.getElem?_append_right (by rw [List.length_map]; omega), List.length_map] at hi
      have h9 := (List.getElem?_eq_some_iff.mp hi).1
      have h8 : i - L.length = 0 := by simp only [List.length_cons, List.length_nil] at h9; omega
      rw [h8] at hi
      have : e = c := by simpa using hi
      subst this
      exact ⟨.back, by rw [List.getElem?_append_right (by omega), h8]; rfl⟩
  have hlen : (L ++ [(e, Rk.back)]).length = L.length + 1 := by simp
  refine ⟨hR 0 _ h.hd, fun i c k hi => ?_, fun i h0 hi => ?_⟩
  · by_cases hl : i < L.length
    · rw [List.getElem?_append_left hl] at hi
      obtain ⟨h1, h2, h3, h4⟩ := h.ok i c k hi
      refine ⟨h1, ⟨fun e => absurd e h2, fun e => absurd e (by omega)⟩, fun e => absurd e h2, fun n hn => ?_, fun hf => ?_⟩
      · obtain ⟨c', h5, h6⟩ := h3 n hn
        obtain ⟨k', h7⟩ := hR _ _ h5
        exact ⟨c', k', h7, h6⟩
      · obtain ⟨c', h5, h6⟩ := h4 hf
        obtain ⟨k', h7⟩ := hR _ _ h5
        exact ⟨c', k', h7, h6⟩
    · have h9 := (List.getElem?_eq_some_iff.mp hi).1
      have h8 : i = L.length := by omega
      subst h8
      rw [List.getElem?_append_right (Nat.le_refl _), Nat.sub_self] at hi
      have e2 : (e, Rk.back) = (c, k) := Option.some.inj hi
      injection e2 with e2 e3
      subst e2 e3
      exact ⟨⟨by rw [he]; exact Nat.le_refl _, (fun s h => nomatch h), (fun s h => nomatch h)⟩, ⟨fun _ => by omega, fun _ => rfl⟩, fun _ => he, (fun n hn => nomatch hn), (fun hf => nomatch hf)⟩
  · rcases h.rc i h0 (by omega) with ⟨c, k, h1, h2⟩ | ⟨j, n, c, k, h1, h2, h3⟩
    · exact .inl ⟨c, k, by rw [List.getElem?_append_left (List.getElem?_eq_some_iff.mp h1).1]; exact h1, h2⟩
    · exact .inr ⟨j, n, c, k, by rw [List.getElem?_append_left (List.getElem?_eq_some_iff.mp h1).1]; exact h1, h2, h3⟩
/-- a block that keeps to its heights -/
structure BlkC (b : Blk) : Prop where
  c0 : 0 ≤ b.count
  c1 : b.count ≤ 1000
  cs : b.count ≤ b.size
  len : b.rows.length ≤ 12900000
  good : ∃ R, Good b.count.toNat b.size R ∧ b.rows = encs R
theorem blkc_of {count size f : Int} {t : Pt} (h0 : 0 ≤ count) (h1 : count ≤ 1000) (h2 : count ≤ size) (ht : SOk size count t) (hl : (rows t f).length ≤ 12800000) : BlkC ⟨count, size, rows t f ++ [backR]⟩ := by
  refine ⟨h0, h1, h2, by simp only [List.length_append, List.length_cons, List.length_nil]; omega, ?_⟩
  have hc : Cov count (ran count.toNat) := by
    have := ran_cov count.toNat
    rw [show ((count.toNat : Nat) : Int) = count by omega] at this
    exact this
  obtain ⟨L, hL, e⟩ := rows_does t f size count ht h0 h2 0 (ran count.toNat) hc
  exact ⟨L ++ [(⟨0 + 1, ran count.toNat⟩, .back)], good_of hL rfl, by rw [encs_app, e]; rfl⟩
/-- reached from a row ahead of i -/
def Met (R : Ln) (i j : Nat) : Prop := j = 0 ∨ ∃ j' c k, j' < i ∧ R[j']? = some (c, k) ∧ ((falls k = true ∧ j' + 1 = j) ∨ ∃ n, jump k = some n ∧ j' + 1 + n = j)
theorem Good.met {n : Nat} {size : Int} {R : Ln} (h : Good n size R) {i : Nat} (hi : i < R.length) : Met R i i := by
  by_cases h0 : i = 0
  · exact .inl h0
  rcases h.rc i (by omega) hi with ⟨c, k, h1, h2⟩ | ⟨j, n, c, k, h1, h2, h3⟩
  · exact .inr ⟨i - 1, c, k, by omega, h1, .inl ⟨h2, by omega⟩⟩
  · exact .inr ⟨j, c, k, by omega, h1, .inr ⟨n, h2, h3⟩⟩
/-- what stands at a row: how many values, and the slots that are kept -/
def Std (st : Addr) (N : Nat) (H : Hp) (c : Crt) (v : V) : Prop := ∃ (p kl : Addr) (ks : List Int), v = .ref p ∧ H p = some (.tup [.int (c.h : Nat), .ref kl]) ∧ H kl = some (.lst (ks.map V.int)) ∧ kl ≠ st ∧ ks.length ≤ N ∧ ∀ m ∈ c.M, m ∈ ks
end CP
set_option maxHeartbeats 4000000
namespace CP
open PySem L2 BV
seal PE PT PW PA PS PSs PTs PI PG PGs PO
abbrev s_law_wants : Stmt := BV.top 31
abbrev s_law_leaves : Stmt := BV.top 32
abbrev s_law_meet : Stmt := BV.top 33
theorem sc_law_wants : FnScope ["_law_row"] ["_law_row"] (defScope s_law_wants) := ⟨rfl, rfl, rfl, by decide +kernel, rfl, by decide +kernel, by decide +kernel⟩
theorem sc_law_leaves : FnScope ["_law_row"] ["_law_row"] (defScope s_law_leaves) := ⟨rfl, rfl, rfl, by decide +kernel, rfl, by decide +kernel, by decide +kernel⟩
theorem sc_law_meet : FnScope ["_law_stands", "_law_at", "_law_height", "_law_kept"] ["_law_stands", "_law_at", "_law_height", "_law_kept"] (defScope s_law_meet) := ⟨rfl, rfl, rfl, by decide +kernel, rfl, by decide +kernel, by decide +kernel⟩
/-- the word of a row -/
def word : Rk → Str
  | .push _ => "push" | .non => "none" | .load _ => "load" | .keep _ => "keep" | .op2 j => sgR j | .op1 j => wdS j
  | .unless _ => "unless" | .skip _ => "skip" | .call _ _ => "call" | .close _ _ => "close" | .apply => "apply" | .back => "back"
theorem enc_word (k : Rk) : ∃ r, encR k = .str (word k) :: r := by cases k <;> exact ⟨_, rfl⟩
theorem atW (k : Rk) : atI (encR k) ((0 : Nat) : Int) = some (.str (word k)) := by
  obtain ⟨r, h⟩ := enc_word k
  exact atI_nat (by rw [h]; rfl)
abbrev w2 : List V := [.str "add", .str "sub", .str "mul", .str "div", .str "less", .str "same", .str "cons", .str "apply"]
abbrev w1 : List V := [.str "head", .str "tail", .str "empty", .str "not", .str "keep", .str "unless", .str "back"]
abbrev wc : List V := [.str "call", .str "close"]
abbrev w0 : List V := [.str "keep", .str "unless", .str "skip", .str "back"]
def in2 : Rk → Bool
  | .op2 _ | .apply => true
  | _ => false
def in1 : Rk → Bool
  | .op1 _ | .keep _ | .unless _ | .back => true
  | _ => false
def inc : Rk → Bool
  | .call _ _ | .close _ _ => true
  | _ => false
def in0 : Rk → Bool
  | .keep _ | .unless _ | .skip _ | .back => true
  | _ => false
theorem in2_ok (k : Rk) : inV (.str (word k)) w2 = in2 k := by
  cases k with
  | op2 j => show inV (.str (sgR j)) w2 = true; unfold sgR; split <;> decide +kernel
  | op1 j => show inV (.str (wdS j)) w2 = false; unfold wdS; split <;> decide +kernel
  | _ => unfold word in2; dsimp only; decide +kernel
theorem in1_ok (k : Rk) : inV (.str (word k)) w1 = in1 k := by
  cases k with
  | op2 j => show inV (.str (sgR j)) w1 = false; unfold sgR; split <;> decide +kernel
  | op1 j => show inV (.str (wdS j)) w1 = true; unfold wdS; split <;> decide +kernel
  | _ => unfold word in1; dsimp only; decide +kernel
theorem inc_ok (k : Rk) : inV (.str (word k)) wc = inc k := by
  cases k with
  | op2 j => show inV (.str (sgR j)) wc = false; unfold sgR; split <;> decide +kernel
  | op1 j => show inV (.str (wdS j)) wc = false; unfold wdS; split <;> decide +kernel
  | _ => unfold word inc; dsimp only; decide +kernel
theorem in0_ok (k : Rk) : inV (.str (word k)) w0 = in0 k := by
  cases k with
  | op2 j => show inV (.str (sgR j)) w0 = false; unfold sgR; split <;> decide +kernel
  | op1 j => show inV (.str (wdS j)) w0 = false; unfold wdS; split <;> decide +kernel
  | _ => unfold word in0; dsimp only; decide +kernel
section
variable {P : Program} {w : World} {K : PySem.W.Frag} {mg : Str → Option Value} {base : Heap} {f : Addr} {fd : FuncData}
def spWants : Sp := fun vs H Q _ => ∃ (a : Addr) (k : Rk), vs = [.ref a] ∧ H a = some (.tup (encR k)) ∧ ∀ H', Same H H' → Q (.int (wants k : Nat)) H'
theorem ok_law_wants (F : Fun K "_law_wants" "_law_wants" s_law_wants f fd) (B : BV.NoG mg) : FnOk P w K mg base CX0 1 f fd ["_law_row"] spWants := by
  refine F.ok sc_law_wants (fun vs H Q E h => ?_) (fun cdv A outer s H vs Q E hr h => ?_)
  · obtain ⟨a, k, rfl, _⟩ := h
    rfl
  obtain ⟨a, k, rfl, ha, q⟩ := h
  have nd := sc_law_wants.nd
  have hu := hr.units0
  have z8 : (8 : Nat) ≤ sizeLine := by decide
  refine ⟨_, (pss_cons (ps_if (pt_cmpR (kIn (K := K) (w := w)) (pe_ix (kIx (K := K) (w := w)) (pv 0) pe_int (fun _ _ => rfl)) (pe_tup (pa_cons pe_str (pa_cons pe_str (pa_cons pe_str (pa_cons pe_str (pa_cons pe_str (pa_cons pe_str (pa_cons pe_str (pa_cons pe_str pa_nil))))))))) rfl) (pss_one (ps_ret pe_int)) pss_nil)
      (pss_cons (ps_if (pt_cmpR (kIn (K := K) (w := w)) (pe_ix (kIx (K := K) (w := w)) (pv 0) pe_int (fun _ _ => rfl)) (pe_tup (pa_cons pe_str (pa_cons pe_str (pa_cons pe_str (pa_cons pe_str (pa_cons pe_str (pa_cons pe_str (pa_cons pe_str pa_nil)))))))) rfl) (pss_one (ps_ret pe_int)) pss_nil)
      (pss_cons (ps_if (pt_cmpR (kIn (K := K) (w := w)) (pe_ix (kIx (K := K) (w := w)) (pv 0) pe_int (fun _ _ => rfl)) (pe_tup (pa_cons pe_str (pa_cons pe_str pa_nil))) rfl) (pss_one (ps_ret (pe_ix (kIx (K := K) (w := w)) (pv 0) pe_int (fun _ _ => rfl)))) pss_nil)
      (pss_one (ps_ret pe_int))))), ?_⟩
  refine ⟨_, rfl, .inr (.inl ⟨a, _, 0, _, rfl, rfl, SqT.of ha, atW k, z8, fun p hp => .inr (.inl ⟨p, w2, rfl, .inr (SqT.of upd_same), rfl, rfl, _, rfl, ?_⟩)⟩)⟩
  have s1 := same_new hp (.tup w2)
  show if inV (.str (word k)) w2 = true then _ else _
  rw [in2_ok]
  cases h2 : in2 k
  · refine ifF Bool.false_ne_true ?_
    refine ⟨_, rfl, .inr (.inl ⟨a, _, 0, _, rfl, rfl, SqT.of (s1 _ _ ha), atW k, Nat.le_trans (by decide) z8, fun p1 hp1 => .inr (.inl ⟨p1, w1, rfl, .inr (SqT.of upd_same), rfl, rfl, _, rfl, ?_⟩)⟩)⟩
    have s2 := s1.trans (same_new hp1 (.tup w1))
    show if inV (.str (word k)) w1 = true then _ else _
    rw [in1_ok]
    cases h1 : in1 k
    · refine ifF Bool.false_ne_true ?_
      refine ⟨_, rfl, .inr (.inl ⟨a, _, 0, _, rfl, rfl, SqT.of (s2 _ _ ha), atW k, Nat.le_trans (by decide) z8, fun p2 hp2 => .inr (.inl ⟨p2, wc, rfl, .inr (SqT.of upd_same), rfl, rfl, _, rfl, ?_⟩)⟩)⟩
      have s3 := s2.trans (same_new hp2 (.tup wc))
      show if inV (.str (word k)) wc = true then _ else _
      rw [inc_ok]
      cases hc : inc k
      · refine ifF Bool.false_ne_true ?_
        have e : wants k = 0 := by cases k <;> first | rfl | (cases h2; done) | (cases h1; done) | (cases hc; done)
        have := q _ s3
        rw [e] at this
        exact this
      · refine ifT rfl ?_
        have e : atI (encR k) ((2 : Nat) : Int) = some (.int (wants k : Nat)) := by cases k <;> first | rfl | (cases hc; done)
        exact ⟨_, rfl, .inr (.inl ⟨a, _, 2, _, rfl, rfl, SqT.of (s3 _ _ ha), e, q _ s3⟩)⟩
    · refine ifT rfl ?_
      have e : wants k = 1 := by cases k <;> first | rfl | (cases h1; done)
      have := q _ s2
      rw [e] at this
      exact this
  · refine ifT rfl ?_
    have e : wants k = 2 := by cases k <;> first | rfl | (cases h2; done)
    have := q _ s1
    rw [e] at this
    exact this
def spLeaves : Sp := fun vs H Q _ => ∃ (a : Addr) (k : Rk), vs = [.ref a] ∧ H a = some (.tup (encR k)) ∧ ∀ H', Same H H' → Q (.int (leaves k : Nat)) H'
theorem ok_law_leaves (F : Fun K "_law_leaves" "_law_leaves" s_law_leaves f fd) (B : BV.NoG mg) : FnOk P w K mg base CX0 1 f fd ["_law_row"] spLeaves := by
  refine F.ok sc_law_leaves (fun vs H Q E h => ?_) (fun cdv A outer s H vs Q E hr h => ?_)
  · obtain ⟨a, k, rfl, _⟩ := h
    rfl
  obtain ⟨a, k, rfl, ha, q⟩ := h
  have nd := sc_law_leaves.nd
  have hu := hr.units0
  have z8 : (8 : Nat) ≤ sizeLine := by decide
  refine ⟨_, (pss_one (ps_ret (pe_callTy call_int_txt rfl B.int_ bt_int (pa_cons (pe_cmpR (kNotIn (K := K)) (pe_ix (kIx (K := K) (w := w)) (pv 0) pe_int (fun _ _ => rfl)) (pe_tup (pa_cons pe_str (pa_cons pe_str (pa_cons pe_str (pa_cons pe_str pa_nil))))) rfl) pa_nil)))), ?_⟩
  refine ⟨_, rfl, .inr (.inl ⟨a, _, 0, _, rfl, rfl, SqT.of ha, atW k, Nat.le_trans (by decide) z8, fun p hp => .inr ⟨p, w0, rfl, .inr (SqT.of upd_same), rfl, rfl, .inl ⟨_, rfl, ?_⟩⟩⟩)⟩
  have s1 := same_new hp (.tup w0)
  show Q (.int (if (!inV (.str (word k)) w0) = true then 1 else 0)) _
  rw [in0_ok]
  have e : (if (!in0 k) = true then (1 : Int) else 0) = (leaves k : Nat) := by cases k <;> rfl
  rw [e]
  exact q _ s1
theorem Std.mono {st : Addr} {N : Nat} {H H' : Hp} {c : Crt} {v : V} (hs : ∃ xs, H st = some (.lst xs)) (k : Kl st H H') (h : Std st N H c v) : Std st N H' c v := by
  obtain ⟨p, kl, ks, rfl, hp, hk, hn, hl, hm⟩ := h
  obtain ⟨xs, hs⟩ := hs
  exact ⟨p, kl, ks, rfl, k _ _ hp (ne_of hp hs (by intro z; cases z)), k _ _ hk hn, hn, hl, hm⟩
theorem Std.wide {st : Addr} {N N' : Nat} {H : Hp} {c : Crt} {v : V} (hN : N ≤ N') (h : Std st N H c v) : Std st N' H c v := by
  obtain ⟨p, kl, ks, rfl, hp, hk, hn, hl, hm⟩ := h
  exact ⟨p, kl, ks, rfl, hp, hk, hn, Nat.le_trans hl hN, hm⟩
theorem ints_in {m : Int} {ks : List Int} : inV (.int m) (ks.map V.int) = decide (m ∈ ks) := by
  unfold inV
  induction ks with
  | nil => rfl
  | cons x r ih =>
    rw [List.map_cons, List.any_cons, ih]
    by_cases e : x = m
    · subst e; simp [eqV]
    · have : eqV (.int x) (.int m) = false := by simp [eqV, e]
      rw [this]
      simp [Ne.symm e]
theorem ixN_nat {n j : Nat} (h : j < n) : ixN n ((j : Nat) : Int) = some j := by
  unfold ixN
  rw [if_pos (by omega), if_pos (by omega)]
  rfl
theorem flat_ints (ks : List Int) : (ks.map V.int).all flatV = true := by simp [flatV]
def spMeet : Sp := fun vs H Q _ => ∃ (st kl : Addr) (j h : Int) (n : Nat) (ss : List V) (ks : List Int) (c : Crt) (v : V) (N : Nat), N ≤ 16000000 ∧ vs = [.ref st, .int j, .int h, .ref kl] ∧ j = (n : Nat) ∧ h = (c.h : Nat) ∧ H st = some (.lst ss) ∧ H kl = some (.lst (ks.map V.int)) ∧ kl ≠ st ∧ ks.length ≤ N ∧ (∀ m ∈ c.M, m ∈ ks) ∧ ss[n]? = some v ∧ (v = .non ∨ Std st N H c v) ∧
  ∀ H' v', Kl st H H' → H' st = some (.lst (ss.set n v')) → Std st N H' c v' → Q (.bl true) H'
theorem ok_law_meet (F : Fun K "_law_meet" "_law_meet" s_law_meet f fd) (B : BV.NoG mg) : FnOk P w K mg base CX0 1 f fd ["_law_stands", "_law_at", "_law_height", "_law_kept"] spMeet := by
  refine F.ok sc_law_meet (fun vs H Q E h => ?_) (fun cdv A outer s H vs Q E hr h => ?_)
  · obtain ⟨st, kl, j, h, n, ss, ks, c, v, N, _, rfl, _⟩ := h
    rfl
  obtain ⟨st, kl, j, h, n, ss, ks, c, v, N, hN, rfl, rfl, rfl, hst, hkl, nkl, hks, hM, hv, hor, q⟩ := h
  have nd := sc_law_meet.nd
  have hu := hr.units0
  have zz : (16000000 : Nat) ≤ sizeLine := by decide
  have hat := atI_nat hv
  refine ⟨_, (pss_cons (ps_if (pt_cmpR op_isN (pe_ix (kIx (K := K) (w := w)) (pv 0) (pv 1) (fun _ _ => rfl)) pe_non rfl) (pss_cons (ps_asg (pe_tup (pa_cons (pv 2) (pa_cons (pv 3) pa_nil))) (pg_sub (pv 0) (pv 1) set_list))
      (pss_one (ps_ret pe_bl))) pss_nil)
      (pss_cons (ps_asg (pe_tup (pa_cons (pe_ix (kIx (K := K) (w := w)) (pe_ix (kIx (K := K) (w := w)) (pv 0) (pv 1) (fun _ _ => rfl)) pe_int (fun _ _ => rfl)) (pa_cons (pe_comp (CompScope.mk (N := ["_law_stands", "_law_at", "_law_height", "_law_kept"]) (sc := defScope s_law_meet) (caps := [3]) (ns := ["_law_kept"]) (by decide +kernel) rfl (by decide +kernel) rfl (by decide +kernel) rfl (by decide +kernel) (by decide +kernel)) rfl rfl rfl (k_ilist (K := K) (pe_ix (kIx (K := K) (w := w)) (pe_ix (kIx (K := K) (w := w)) (pv 0) (pv 1) (fun _ _ => rfl)) pe_int (fun _ _ => rfl))) (fun _ _ _ _ _ => (pts_one (pt_cmpR (kIn (K := K) (w := w)) (pv 0) (pv 1) rfl))) (fun _ _ _ _ _ => (pv 0))) pa_nil))) (pg_sub (pv 0) (pv 1) set_list))
      (pss_one (ps_ret (pe_cmpR (kEq (K := K) hu) (pe_ix (kIx (K := K) (w := w)) (pe_ix (kIx (K := K) (w := w)) (pv 0) (pv 1) (fun _ _ => rfl)) pe_int (fun _ _ => rfl)) (pv 2) rfl))))), ?_⟩
  refine ⟨_, rfl, _, rfl, .inl ⟨st, _, _, _, rfl, rfl, SqL.of hst, hat, rfl, _, rfl, ?_⟩⟩
  have hix : ixN ss.length ((n : Nat) : Int) = some n := ixN_nat (List.getElem?_eq_some_iff.mp hv).1
  rcases hor with rfl | ⟨p, kl2, ks2, rfl, hp, hkl2, nkl2, hks2, hM2⟩
  · refine ifT (by decide) ?_
    refine ⟨_, rfl, _, rfl, two2, fun e he => ?_⟩
    have s1 := same_new he (.tup [.int (c.h : Nat), .ref kl])
    have ne : e ≠ st := fun z => by subst z; rw [hst] at he; cases he
    refine ⟨_, rfl, _, rfl, st, ss, _, n, rfl, rfl, s1 _ _ hst, hix, ?_⟩
    exact q _ (.ref e) ((Kl.of s1).trans (Kl.upd _)) upd_same ⟨e, kl, ks, rfl, by rw [upd_ne ne]; exact upd_same, by rw [upd_ne nkl]; exact s1 _ _ hkl, nkl, hks, hM⟩
  · refine ifF (by simp) ?_
    refine ⟨_, rfl, _, rfl, .inl ⟨st, _, _, _, rfl, rfl, SqL.of hst, hat, .inr (.inl ⟨p, _, 0, _, rfl, rfl, SqT.of hp, rfl, ?_⟩)⟩⟩
    refine ⟨_, rfl, _, rfl, .inl ⟨st, _, _, _, rfl, rfl, SqL.of hst, hat, .inr (.inl ⟨p, _, 1, _, rfl, rfl, SqT.of hp, rfl, kl2, rfl, ⟨_, SqL.of hkl2⟩, ?_⟩)⟩⟩
    refine comp_list (xs := ks2.map V.int) (fun j ys H' => ∃ zs : List Int, ys = zs.map V.int ∧ zs.length ≤ j ∧ (∀ m ∈ ks2.take j, m ∈ ks → m ∈ zs) ∧ H = H') ⟨[], rfl, Nat.le_refl _, by simp, rfl⟩ ?_ ?_ ?_
    · rintro i ys H' hi ⟨zs, rfl, hz, _, rfl⟩
      refine ⟨SqL.of hkl2, ?_⟩
      rw [List.length_map] at hi ⊢
      omega
    · rintro i x ys H' hx ⟨zs, rfl, hz, hin, rfl⟩
      rw [List.getElem?_map] at hx
      obtain ⟨m, hm, rfl⟩ := Option.map_eq_some_iff.mp hx
      refine ⟨_, rfl, _, rfl, .inr (.inl ⟨kl, _, rfl, .inl (SqL.of hkl), rfl, flat_ints ks, _, rfl, ?_⟩)⟩
      show if inV (.int m) (ks.map V.int) = true then _ else _
      rw [ints_in]
      refine ite2 (fun e => ⟨_, rfl, zs ++ [m], by rw [List.map_append]; rfl, by rw [List.length_append]; simp only [List.length_cons, List.length_nil]; omega, fun y hy hy2 => ?_, rfl⟩) (fun e => ⟨zs, rfl, by omega, fun y hy hy2 => ?_, rfl⟩)
      · rw [BV.take_one hm] at hy
        rcases List.mem_append.mp hy with h | h
        · exact List.mem_append_left _ (hin y h hy2)
        · exact List.mem_append_right _ h
      · rw [BV.take_one hm] at hy
        rcases List.mem_append.mp hy with h | h
        · exact hin y h hy2
        · rw [List.mem_singleton.mp h] at hy2
          exact absurd (decide_eq_true hy2) e
    rintro ys H' ⟨zs, rfl, hz, hin, rfl⟩ zl hzl
    rw [List.length_map] at hz
    rw [List.length_map, List.take_of_length_le (Nat.le_refl _)] at hin
    have s1 := same_new hzl (.lst (zs.map V.int))
    refine ⟨two2, fun e he => ?_⟩
    have s2 := s1.trans (same_new he (.tup [.int (c.h : Nat), .ref zl]))
    have nz : zl ≠ st := fun z => by subst z; rw [hst] at hzl; cases hzl
    have ne : e ≠ st := fun z => by subst z; rw [s1 _ _ hst] at he; cases he
    refine ⟨_, rfl, _, rfl, st, ss, _, n, rfl, rfl, s2 _ _ hst, hix, ?_⟩
    have hlt := (List.getElem?_eq_some_iff.mp hv).1
    have hst4 : (upd (upd (upd H zl (.lst (zs.map V.int))) e (.tup [.int (c.h : Nat), .ref zl])) st (.lst (ss.set n (.ref e)))) st = some (.lst (ss.set n (.ref e))) := upd_same
    have he4 : (upd (upd (upd H zl (.lst (zs.map V.int))) e (.tup [.int (c.h : Nat), .ref zl])) st (.lst (ss.set n (.ref e)))) e = some (.tup [.int (c.h : Nat), .ref zl]) := by rw [upd_ne ne]; exact upd_same
    refine ⟨_, rfl, _, rfl, .inl ⟨st, _, _, _, rfl, rfl, SqL.of hst4, atI_nat (by rw [List.getElem?_set_self hlt]), .inr (.inl ⟨e, _, 0, _, rfl, rfl, SqT.of he4, rfl, _, rfl, .inl ⟨rfl, ?_⟩⟩)⟩⟩
    rw [decide_eq_true rfl]
    exact q _ (.ref e) ((Kl.of s2).trans (Kl.upd _)) hst4 ⟨e, zl, zs, rfl, he4, by rw [upd_ne nz]; exact (same_new he _) _ _ upd_same, nz, by omega, fun m hm => hin m (hM2 m hm) (hM m hm)⟩
end
end CP
set_option maxHeartbeats 4000000
namespace CP
open PySem L2 BV
seal PE PT PW PA PS PSs PTs PI PG PGs PO
abbrev s_law_goes : Stmt := BV.top 34
theorem sc_law_goes : FnScope ["_law_stands", "_law_rows", "_law_at", "_law_height", "_law_kept", "_law_goal"] ["_law_stands", "_law_rows", "_law_at", "_law_height", "_law_kept"] (defScope s_law_goes) := ⟨rfl, rfl, rfl, by decide +kernel, rfl, by decide +kernel, by decide +kernel⟩
abbrev wj : List V := [.str "skip", .str "unless"]
abbrev we : List V := [.str "skip", .str "back"]
theorem inj_ok (k : Rk) : inV (.str (word k)) wj = (jump k).isSome := by
  cases k with
  | op2 j => show inV (.str (sgR j)) wj = false; unfold sgR; split <;> decide +kernel
  | op1 j => show inV (.str (wdS j)) wj = false; unfold wdS; split <;> decide +kernel
  | «unless» n => show inV (.str "unless") wj = true; decide +kernel
  | skip n => show inV (.str "skip") wj = true; decide +kernel
  | _ => unfold word jump; dsimp only; decide +kernel
theorem ine_ok (k : Rk) : inV (.str (word k)) we = !falls k := by
  cases k with
  | op2 j => show inV (.str (sgR j)) we = false; unfold sgR; split <;> decide +kernel
  | op1 j => show inV (.str (wdS j)) we = false; unfold wdS; split <;> decide +kernel
  | _ => unfold word falls; dsimp only; decide +kernel
theorem atJ {k : Rk} {n : Nat} (h : jump k = some n) : atI (encR k) ((1 : Nat) : Int) = some (.int (n : Nat)) := by
  cases k <;> first | (cases h; done) | (cases h; rfl)
/-- what stands, and that nothing that is reached is left out -/
def Sds (st : Addr) (N : Nat) (R : Ln) (M : Nat → Prop) (H : Hp) (ss : List V) : Prop := ss.length = R.length ∧ ∀ j c k, R[j]? = some (c, k) → ∃ v, ss[j]? = some v ∧ (v = .non ∧ ¬ M j ∨ Std st N H c v)
theorem Sds.set {st : Addr} {N : Nat} {R : Ln} {M M' : Nat → Prop} {H H' : Hp} {ss : List V} {n : Nat} {c : Crt} {k : Rk} {v : V} (h : Sds st N R M H ss) (hs : ∃ xs, H st = some (.lst xs)) (hk : Kl st H H') (hn : R[n]? = some (c, k)) (hv : Std st N H' c v) (hM : ∀ j, M' j → M j ∨ j = n) : Sds st N R M' H' (ss.set n v) := by
  refine ⟨by rw [List.length_set]; exact h.1, fun j c' k' hj => ?_⟩
  by_cases e : n = j
  · subst e
    rw [hn] at hj
    have e2 : (c, k) = (c', k') := Option.some.inj hj
    injection e2 with e2 e3
    subst e2 e3
    have hlt : n < ss.length := by rw [h.1]; exact (List.getElem?_eq_some_iff.mp hn).1
    exact ⟨v, by rw [List.getElem?_set_self hlt], .inr hv⟩
  · obtain ⟨u, hu, hor⟩ := h.2 j c' k' hj
    refine ⟨u, by rw [List.getElem?_set_ne e]; exact hu, ?_⟩
    rcases hor with ⟨h1, h2⟩ | h1
    · exact .inl ⟨h1, fun z => (hM j z).elim h2 fun z => e z.symm⟩
    · exact .inr (h1.mono hs hk)
theorem Sds.same {st : Addr} {N N' : Nat} {R : Ln} {M M' : Nat → Prop} {H H' : Hp} {ss : List V} (h : Sds st N R M H ss) (hs : ∃ xs, H st = some (.lst xs)) (hk : Kl st H H') (hN : N ≤ N') (hM : ∀ j, M' j → M j) : Sds st N' R M' H' ss :=
  ⟨h.1, fun j c k hj => by
    obtain ⟨u, hu, hor⟩ := h.2 j c k hj
    refine ⟨u, hu, ?_⟩
    rcases hor with ⟨h1, h2⟩ | h1
    · exact .inl ⟨h1, fun z => h2 (hM j z)⟩
    · exact .inr ((h1.mono hs hk).wide hN)⟩
section
variable {P : Program} {w : World} {K : PySem.W.Frag} {mg : Str → Option Value} {base : Heap} {f : Addr} {fd : FuncData} {f_law_meet : Addr} {d_law_meet : FuncData}
def spGoes : Sp := fun vs H Q _ => ∃ (st rp kl : Addr) (a h : Int) (i hn N cn : Nat) (size : Int) (R : Ln) (ss rs : List V) (ks : List Int) (c : Crt) (k : Rk), N ≤ 16000000 ∧ vs = [.ref st, .ref rp, .int a, .int h, .ref kl] ∧ a = (i : Nat) ∧ h = (hn : Nat) ∧ hn + wants k = c.h + leaves k ∧ Good cn size R ∧ R[i]? = some (c, k) ∧ H rp = some (.tup rs) ∧ All2 (RowAt H) (encs R) rs ∧
  H st = some (.lst ss) ∧ Sds st N R (Met R i) H ss ∧ H kl = some (.lst (ks.map V.int)) ∧ kl ≠ st ∧ ks.length ≤ N ∧ (∀ m ∈ newM c k, m ∈ ks) ∧
  ∀ H' ss', Kl st H H' → H' st = some (.lst ss') → Sds st N R (Met R (i + 1)) H' ss' → Q (.bl true) H'
theorem ok_law_goes (F : Fun K "_law_goes" "_law_goes" s_law_goes f fd) (B : BV.NoG mg)
    (G_law_meet : FnOk P w K mg base CX0 1 f_law_meet d_law_meet ["_law_stands", "_law_at", "_law_height", "_law_kept"] spMeet) (b_law_meet : Binds K d_law_meet ["_law_stands", "_law_at", "_law_height", "_law_kept"] []) (k_law_meet : PySem.W.keepIn K (.ref f_law_meet) = true) (m_law_meet : mg "_law_meet" = some (.ref f_law_meet)) :
    FnOk P w K mg base CX0 2 f fd ["_law_stands", "_law_rows", "_law_at", "_law_height", "_law_kept"] spGoes := by
  refine F.ok sc_law_goes (fun vs H Q E h => ?_) (fun cdv A outer s H vs Q E hr h => ?_)
  · obtain ⟨st, rp, kl, a, h, i, hn, N, cn, size, R, ss, rs, ks, c, k, _, rfl, _⟩ := h
    rfl
  obtain ⟨st, rp, kl, a, h, i, hn, N, cn, size, R, ss, rs, ks, c, k, hN, rfl, rfl, rfl, hhn, hR, hik, hrp, hrs, hst, hS, hkl, nkl, hks, hM, q⟩ := h
  have nd := sc_law_goes.nd
  have hu := hr.units0
  have zz : (16000000 : Nat) ≤ sizeLine := by decide
  have hrl := hrs.len
  rw [encs_len] at hrl
  have hiL := (List.getElem?_eq_some_iff.mp hik).1
  have hek : (encs R)[i]? = some (encR k) := by
    unfold encs
    rw [List.getElem?_map, hik]
    rfl
  obtain ⟨rv, hrv, a, rfl, ha⟩ := hrs.get' hek
  have hat : atI rs ((i : Nat) : Int) = some (.ref a) := atI_nat hrv
  obtain ⟨_, _, _, hj, hf⟩ := hR.ok i c k hik
  have old : ∀ j, Met R (i + 1) j → Met R i j ∨ (falls k = true ∧ i + 1 = j) ∨ ∃ n, jump k = some n ∧ i + 1 + n = j := fun j h => by
    rcases h with h | ⟨j', c', k', h1, h2, h3⟩
    · exact .inl (.inl h)
    · by_cases e : j' = i
      · subst e
        rw [hik] at h2
        have e2 : (c, k) = (c', k') := Option.some.inj h2
        injection e2 with e2 e3
        subst e2 e3
        exact .inr h3
      · exact .inl (.inr ⟨j', c', k', by omega, h2, h3⟩)
  refine ⟨_, (pss_cons (ps_cut (ps_if (pt_cmpR (kIn (K := K) (w := w)) (pe_ix (kIx (K := K) (w := w)) (pe_ix (kIx (K := K) (w := w)) (pv 1) (pv 2) (fun _ _ => rfl)) pe_int (fun _ _ => rfl)) (pe_tup (pa_cons pe_str (pa_cons pe_str pa_nil))) rfl) (pss_cons (ps_set (i := 5) nd rfl (Or.inl rfl) (pe_op uAdd (pe_op uAdd (pv 2) pe_int) (pe_ix (kIx (K := K) (w := w)) (pe_ix (kIx (K := K) (w := w)) (pv 1) (pv 2) (fun _ _ => rfl)) pe_int (fun _ _ => rfl))))
      (pss_one (ps_cut (ps_if (PW.pt (pw_or (pt_cmpR op_ge (pv 5) (pe_callB (k_len (K := K)) rfl B.len_ bt_len (pa_cons (pv 1) pa_nil)) rfl) (pw_or (pt_cmpR op_le (pv 5) (pv 2) rfl) (pw_or1 (pt_not (k_truth (K := K) (pe_call G_law_meet (hr.mono (by first | decide | omega)) rfl m_law_meet k_law_meet b_law_meet .nil pass0 (pa_cons (pv 0) (pa_cons (pv 5) (pa_cons (pv 3) (pa_cons (pv 4) pa_nil))))) (fun _ => rfl))))))) (pss_one (ps_ret pe_bl)) pss_nil)))) pss_nil))
      (pss_cons (ps_if (pt_cmpR (kIn (K := K) (w := w)) (pe_ix (kIx (K := K) (w := w)) (pe_ix (kIx (K := K) (w := w)) (pv 1) (pv 2) (fun _ _ => rfl)) pe_int (fun _ _ => rfl)) (pe_tup (pa_cons pe_str (pa_cons pe_str pa_nil))) rfl) (pss_one (ps_ret pe_bl)) pss_nil)
      (pss_one (ps_ret (pe_and (pe_cmpR op_lt (pe_op uAdd (pv 2) pe_int) (pe_callB (k_len (K := K)) rfl B.len_ bt_len (pa_cons (pv 1) pa_nil)) rfl) (pe_one (pe_call G_law_meet (hr.mono (by first | decide | omega)) rfl m_law_meet k_law_meet b_law_meet .nil pass0 (pa_cons (pv 0) (pa_cons (pe_op uAdd (pv 2) pe_int) (pa_cons (pv 3) (pa_cons (pv 4) pa_nil))))))))))), ?_⟩
  refine ⟨fun σ H' => ∃ x ss1, σ = [some (.ref st), some (.ref rp), some (.int (i : Nat)), some (.int (hn : Nat)), some (.ref kl), x] ∧ Kl st H H' ∧ H' st = some (.lst ss1) ∧ Sds st N R (fun j => Met R i j ∨ ∃ n, jump k = some n ∧ i + 1 + n = j) H' ss1, ?_, ?_⟩
  · refine ⟨_, rfl, _, rfl, .inr (.inl ⟨rp, _, _, _, rfl, rfl, SqT.of hrp, hat, .inr (.inl ⟨a, _, 0, _, rfl, rfl, SqT.of ha, atW k, two2, fun p hp => .inr (.inl ⟨p, wj, rfl, .inr (SqT.of upd_same), rfl, rfl, _, rfl, ?_⟩)⟩)⟩)⟩
    have s1 := same_new hp (.tup wj)
    show if inV (.str (word k)) wj = true then _ else _
    rw [inj_ok]
    cases hjk : jump k with
    | none =>
      refine ifF Bool.false_ne_true ⟨none, ss, rfl, .of s1, s1 _ _ hst, hS.same ⟨_, hst⟩ (.of s1) (Nat.le_refl _) fun j z => ?_⟩
      rcases z with z | ⟨n, z, _⟩
      · exact z
      · cases z
    | some n =>
      refine ifT rfl ?_
      obtain ⟨c', k', hc', hL⟩ := hj n hjk
      have hlt := (List.getElem?_eq_some_iff.mp hc').1
      refine ⟨_, rfl, .inl ⟨_, _, rfl, rfl, _, rfl, _, rfl, .inr (.inl ⟨rp, _, _, _, rfl, rfl, SqT.of (s1 _ _ hrp), hat, .inr (.inl ⟨a, _, 1, _, rfl, rfl, SqT.of (s1 _ _ ha), atJ hjk, .inl ⟨_, _, rfl, rfl, ?_⟩⟩)⟩)⟩⟩
      refine ⟨fun σ H' => ∃ x ss1, σ = [some (.ref st), some (.ref rp), some (.int (i : Nat)), some (.int (hn : Nat)), some (.ref kl), x] ∧ Kl st H H' ∧ H' st = some (.lst ss1) ∧ Sds st N R (fun j => Met R i j ∨ ∃ n, jump k = some n ∧ i + 1 + n = j) H' ss1, ?_, fun _ _ z => by rw [hjk] at z; exact z⟩
      refine ⟨_, rfl, _, rfl, _, _, rfl, .inr ⟨_, SqT.of (s1 _ _ hrp), rfl⟩, _, _, rfl, rfl, _, rfl, ifF ?_ ?_⟩
      · rw [← hrl]; simp; omega
      refine ⟨_, rfl, _, rfl, _, _, rfl, rfl, _, rfl, ifF ?_ ?_⟩
      · simp; omega
      obtain ⟨v, hv, hor⟩ := hS.2 _ _ _ hc'
      refine ⟨_, rfl, _, rfl, _, rfl, _, rfl, st, kl, _, _, i + 1 + n, ss, ks, c', v, N, hN, rfl, by omega, ?_, s1 _ _ hst, s1 _ _ hkl, nkl, hks, fun m hm => hM m (hL.2 m hm), hv, ?_, fun H2 v' k2 hst2 hv2 => ⟨true, rfl, ifF (by decide) ?_⟩⟩
      · have := hL.1
        omega
      · rcases hor with ⟨h1, _⟩ | h1
        · exact .inl h1
        · exact .inr (h1.mono ⟨_, hst⟩ (.of s1))
      refine ⟨_, _, rfl, (Kl.of s1).trans k2, hst2, (hS.same ⟨_, hst⟩ (.of s1) (Nat.le_refl _) (fun _ z => z)).set ⟨_, s1 _ _ hst⟩ k2 hc' hv2 fun j z => ?_⟩
      rcases z with z | ⟨n', z, z2⟩
      · exact .inl z
      · rw [hjk] at z
        cases z
        exact .inr z2.symm
  rintro σ H1 ⟨x, ss1, rfl, k1, hst1, hS1⟩
  have t1 : ∀ b xs, H b = some (.tup xs) → H1 b = some (.tup xs) := k1.tups hst
  refine ⟨_, rfl, _, rfl, .inr (.inl ⟨rp, _, _, _, rfl, rfl, SqT.of (t1 _ _ hrp), hat, .inr (.inl ⟨a, _, 0, _, rfl, rfl, SqT.of (t1 _ _ ha), atW k, two2, fun p hp => .inr (.inl ⟨p, we, rfl, .inr (SqT.of upd_same), rfl, rfl, _, rfl, ?_⟩)⟩)⟩)⟩
  have s2 := same_new hp (.tup we)
  have hS2 := hS1.same ⟨_, hst1⟩ (.of s2) (Nat.le_refl _) (fun _ z => z)
  show if inV (.str (word k)) we = true then _ else _
  rw [ine_ok]
  cases hfk : falls k with
  | false =>
    refine ifT rfl (q _ ss1 (k1.trans (.of s2)) (s2 _ _ hst1) (hS2.same ⟨_, s2 _ _ hst1⟩ (.of (Same.refl _)) (Nat.le_refl _) fun j z => ?_))
    rcases old j z with z | ⟨z, _⟩ | z
    · exact .inl z
    · rw [hfk] at z; cases z
    · exact .inr z
  | true =>
    refine ifF (by decide) ?_
    obtain ⟨c', k', hc', hL⟩ := hf hfk
    have hlt := (List.getElem?_eq_some_iff.mp hc').1
    obtain ⟨v, hv, hor⟩ := hS2.2 _ _ _ hc'
    refine ⟨_, rfl, .inl ⟨_, _, rfl, rfl, _, rfl, _, _, rfl, .inr ⟨_, SqT.of (s2 _ _ (t1 _ _ hrp)), rfl⟩, _, _, rfl, rfl, ?_⟩⟩
    refine ⟨_, rfl, ifT (decide_eq_true (by omega)) ?_⟩
    refine ⟨_, rfl, _, rfl, .inl ⟨_, _, rfl, rfl, _, rfl, _, rfl, st, kl, _, _, i + 1, ss1, ks, c', v, N, hN, rfl, by omega, ?_, s2 _ _ hst1, s2 _ _ (k1 _ _ hkl nkl), nkl, hks, fun m hm => hM m (hL.2 m hm), hv, ?_, fun H2 v' k2 hst2 hv2 => ?_⟩⟩
    · have := hL.1
      omega
    · rcases hor with ⟨h1, _⟩ | h1
      · exact .inl h1
      · exact .inr h1
    refine q _ _ (k1.trans ((Kl.of s2).trans k2)) hst2 (hS2.set ⟨_, s2 _ _ hst1⟩ k2 hc' hv2 fun j z => ?_)
    rcases old j z with z | ⟨_, z⟩ | z
    · exact .inl (.inl z)
    · exact .inr z.symm
    · exact .inl (.inr z)
end
end CP
set_option maxHeartbeats 8000000
namespace CP
open PySem L2 BV
seal PE PT PW PA PS PSs PTs PI PG PGs PO
abbrev s_law_good : Stmt := BV.top 35
theorem sc_law_good : FnScope ["_law_block", "_law_count", "_law_size_here", "_law_rows", "_law_stands", "_law_at", "_law_row", "_law_height", "_law_kept"] ["_law_block"] (defScope s_law_good) := ⟨rfl, rfl, rfl, by decide +kernel, rfl, by decide +kernel, by decide +kernel⟩
def isLoad : Rk → Bool
  | .load _ => true
  | _ => false
def isKeep : Rk → Bool
  | .keep _ => true
  | _ => false
def isBack : Rk → Bool
  | .back => true
  | _ => false
theorem back_is (k : Rk) : isBack k = true ↔ k = .back := by cases k <;> simp [isBack]
theorem wload (k : Rk) : decide (V.str (word k) = V.str "load") = isLoad k := by
  cases k with
  | op2 j => show decide (V.str (sgR j) = V.str "load") = false; unfold sgR; split <;> decide +kernel
  | op1 j => show decide (V.str (wdS j) = V.str "load") = false; unfold wdS; split <;> decide +kernel
  | _ => rfl
theorem wkeep (k : Rk) : decide (V.str (word k) = V.str "keep") = isKeep k := by
  cases k with
  | op2 j => show decide (V.str (sgR j) = V.str "keep") = false; unfold sgR; split <;> decide +kernel
  | op1 j => show decide (V.str (wdS j) = V.str "keep") = false; unfold wdS; split <;> decide +kernel
  | _ => rfl
theorem wback (k : Rk) : decide (V.str (word k) = V.str "back") = isBack k := by
  cases k with
  | op2 j => show decide (V.str (sgR j) = V.str "back") = false; unfold sgR; split <;> decide +kernel
  | op1 j => show decide (V.str (wdS j) = V.str "back") = false; unfold wdS; split <;> decide +kernel
  | _ => rfl
abbrev wlk : List V := [.str "load", .str "keep"]
theorem inlk (k : Rk) : inV (.str (word k)) wlk = (isLoad k || isKeep k) := by
  cases k with
  | op2 j => show inV (.str (sgR j)) wlk = false; unfold sgR; split <;> decide +kernel
  | op1 j => show inV (.str (wdS j)) wlk = false; unfold wdS; split <;> decide +kernel
  | _ => rfl
section
variable {P : Program} {w : World} {K : PySem.W.Frag} {mg : Str → Option Value} {base : Heap} {f : Addr} {fd : FuncData} {f_law_wants f_law_leaves f_law_goes : Addr} {d_law_wants d_law_leaves d_law_goes : FuncData}
def stG (bp rp st : Addr) (cn sz : Int) (a5 a6 a7 a8 : Option V) : St := [some (.ref bp), some (.int cn), some (.int sz), some (.ref rp), some (.ref st), a5, a6, a7, a8]
def spGood : Sp := fun vs H Q _ => ∃ (b : Blk) (bv : V), vs = [bv] ∧ BlkAt H b bv ∧ BlkC b ∧ ∀ H', Same H H' → Q (.bl true) H'
theorem ok_law_good (F : Fun K "_law_good" "_law_good" s_law_good f fd) (B : BV.NoG mg)
    (G_law_wants : FnOk P w K mg base CX0 1 f_law_wants d_law_wants ["_law_row"] spWants) (b_law_wants : Binds K d_law_wants ["_law_row"] []) (k_law_wants : PySem.W.keepIn K (.ref f_law_wants) = true) (m_law_wants : mg "_law_wants" = some (.ref f_law_wants))
    (G_law_leaves : FnOk P w K mg base CX0 1 f_law_leaves d_law_leaves ["_law_row"] spLeaves) (b_law_leaves : Binds K d_law_leaves ["_law_row"] []) (k_law_leaves : PySem.W.keepIn K (.ref f_law_leaves) = true) (m_law_leaves : mg "_law_leaves" = some (.ref f_law_leaves))
    (G_law_goes : FnOk P w K mg base CX0 2 f_law_goes d_law_goes ["_law_stands", "_law_rows", "_law_at", "_law_height", "_law_kept"] spGoes) (b_law_goes : Binds K d_law_goes ["_law_stands", "_law_rows", "_law_at", "_law_height", "_law_kept"] []) (k_law_goes : PySem.W.keepIn K (.ref f_law_goes) = true) (m_law_goes : mg "_law_goes" = some (.ref f_law_goes)) :
    FnOk P w K mg base CX0 3 f fd ["_law_block"] spGood := by
  refine F.ok sc_law_good (fun vs H Q E h => ?_) (fun cdv A outer s H vs Q E hr h => ?_)
  · obtain ⟨b, bv, rfl, _⟩ := h
    rfl
  obtain ⟨b, bv, rfl, ⟨bp, r, rfl, hbp, rp, rs, rfl, hrp, hrs⟩, hC, q⟩ := h
  obtain ⟨c0, c1, c2, hlen, R, hR, hrows⟩ := hC
  have nd := sc_law_good.nd
  have hu := hr.units0
  have zz : (16000000 : Nat) ≤ sizeLine := by decide
  rw [hrows] at hrs hlen
  have hrl := hrs.len
  rw [encs_len] at hrl hlen
  obtain ⟨k0, hk0⟩ := hR.hd
  have hpos : 0 < R.length := (List.getElem?_eq_some_iff.mp hk0).1
  refine ⟨_, (pss_cons (ps_asg (pv 0) (pg_tup rfl (pgs_cons (pg_name (i := 1) nd rfl (Or.inl rfl)) (pgs_cons (pg_name (i := 2) nd rfl (Or.inl rfl)) (pgs_cons (pg_name (i := 3) nd rfl (Or.inl rfl)) pgs_nil)))))
      (pss_cons (ps_setComp (i := 4) nd rfl rfl (CompScope.mk (N := ["_law_block", "_law_count", "_law_size_here", "_law_rows", "_law_stands", "_law_at", "_law_row", "_law_height", "_law_kept"]) (sc := defScope s_law_good) (caps := []) (ns := []) (by decide +kernel) rfl (by decide +kernel) rfl (by decide +kernel) rfl (by decide +kernel) (by decide +kernel)) rfl rfl rfl (k_itup (K := K) (pv 3)) (fun _ _ _ _ _ => pts_nil) (fun _ _ _ _ _ => pe_non))
      (pss_cons (ps_asg (pe_tup (pa_cons pe_int (pa_cons (pe_comp (CompScope.mk (N := ["_law_block", "_law_count", "_law_size_here", "_law_rows", "_law_stands", "_law_at", "_law_row", "_law_height", "_law_kept"]) (sc := defScope s_law_good) (caps := []) (ns := []) (by decide +kernel) rfl (by decide +kernel) rfl (by decide +kernel) rfl (by decide +kernel) (by decide +kernel)) rfl rfl rfl (pi_range1 rfl B.range_ (pa_cons (pv 1) pa_nil)) (fun _ _ _ _ _ => pts_nil) (fun _ _ _ _ _ => (pv 0))) pa_nil))) (pg_sub (pv 4) pe_int set_list))
      (pss_cons (ps_cut (ps_for PassesOwn.never rfl (pi_range1 rfl B.range_ (pa_cons (pe_callB (k_len (K := K)) rfl B.len_ bt_len (pa_cons (pv 3) pa_nil)) pa_nil)) (pg_name (i := 5) nd rfl (Or.inl rfl)) (pss_cons (ps_set (i := 6) nd rfl (Or.inl rfl) (pe_ix (kIx (K := K) (w := w)) (pv 3) (pv 5) (fun _ _ => rfl)))
      (pss_cons (ps_if (pt_cmpR op_isN (pe_ix (kIx (K := K) (w := w)) (pv 4) (pv 5) (fun _ _ => rfl)) pe_non rfl) (pss_one (ps_ret pe_bl)) pss_nil)
      (pss_cons (ps_asg (pe_ix (kIx (K := K) (w := w)) (pv 4) (pv 5) (fun _ _ => rfl)) (pg_tup rfl (pgs_cons (pg_name (i := 7) nd rfl (Or.inl rfl)) (pgs_cons (pg_name (i := 8) nd rfl (Or.inl rfl)) pgs_nil))))
      (pss_cons (ps_cut (ps_if (PW.pt (pw_or (pt_cmpR op_lt (pv 7) (pe_call G_law_wants (hr.mono (by first | decide | omega)) rfl m_law_wants k_law_wants b_law_wants .nil pass0 (pa_cons (pv 6) pa_nil)) rfl) (pw_or1 (pt_cmpR (kNe (K := K) hu) (pe_cmpR (kEq (K := K) hu) (pe_ix (kIx (K := K) (w := w)) (pv 6) pe_int (fun _ _ => rfl)) pe_str rfl) (pe_cmpR (kEq (K := K) hu) (pv 5) (pe_op op_sub (pe_callB (k_len (K := K)) rfl B.len_ bt_len (pa_cons (pv 3) pa_nil)) pe_int) rfl) rfl)))) (pss_one (ps_ret pe_bl)) pss_nil))
      (pss_cons (ps_cut (ps_if (PW.pt (pw_or (PW.pt (pw_and (pt_cmpR (kEq (K := K) hu) (pe_ix (kIx (K := K) (w := w)) (pv 6) pe_int (fun _ _ => rfl)) pe_str rfl) (pw_and1 (pt_cmpR (kNotIn (K := K)) (pe_ix (kIx (K := K) (w := w)) (pv 6) pe_int (fun _ _ => rfl)) (pv 8) rfl)))) (pw_or1 (PW.pt (pw_and (pt_cmpR (kIn (K := K) (w := w)) (pe_ix (kIx (K := K) (w := w)) (pv 6) pe_int (fun _ _ => rfl)) (pe_tup (pa_cons pe_str (pa_cons pe_str pa_nil))) rfl) (pw_and1 (pt_not (pt_chain op_le op_lt pe_int (pe_ix (kIx (K := K) (w := w)) (pv 6) pe_int (fun _ _ => rfl)) (pv 2))))))))) (pss_one (ps_ret pe_bl)) pss_nil))
      (pss_cons (ps_cut (ps_if (pt_cmpR (kEq (K := K) hu) (pe_ix (kIx (K := K) (w := w)) (pv 6) pe_int (fun _ _ => rfl)) pe_str rfl) (pss_one (ps_set (i := 8) nd rfl (Or.inl rfl) (pe_op uAdd (pv 8) (pe_lst (pa_cons (pe_ix (kIx (K := K) (w := w)) (pv 6) pe_int (fun _ _ => rfl)) pa_nil))))) pss_nil))
      (pss_cons (ps_cut (ps_if (PW.pt (pw_and (pt_cmpR (kEq (K := K) hu) (pe_ix (kIx (K := K) (w := w)) (pv 6) pe_int (fun _ _ => rfl)) pe_str rfl) (pw_and1 (pt_cmpR (kNe (K := K) hu) (pv 7) pe_int rfl)))) (pss_one (ps_ret pe_bl)) pss_nil))
      (pss_one (ps_if (pt_not (k_truth (K := K) (pe_call G_law_goes (hr.mono (by first | decide | omega)) rfl m_law_goes k_law_goes b_law_goes .nil pass0 (pa_cons (pv 4) (pa_cons (pv 3) (pa_cons (pv 5) (pa_cons (pe_op uAdd (pe_op op_sub (pv 7) (pe_call G_law_wants (hr.mono (by first | decide | omega)) rfl m_law_wants k_law_wants b_law_wants .nil pass0 (pa_cons (pv 6) pa_nil))) (pe_call G_law_leaves (hr.mono (by first | decide | omega)) rfl m_law_leaves k_law_leaves b_law_leaves .nil pass0 (pa_cons (pv 6) pa_nil))) (pa_cons (pv 8) pa_nil)))))) (fun _ => rfl))) (pss_one (ps_ret pe_bl)) pss_nil)))))))))))
      (pss_one (ps_ret (pe_cmpR op_le (pv 1) (pv 2) rfl))))))), ?_⟩
  -- count, size_here, rows = block
  refine ⟨_, rfl, bp, _, rfl, SqT.of hbp, rfl, _, _, rfl, _, _, rfl, _, _, rfl, rfl, ?_⟩
  -- stands = [None for row in rows]
  refine ⟨_, rfl, rp, rfl, ⟨rs, SqT.of hrp⟩, comp_tup (xs := rs) (fun j ys H' => ys = List.replicate j .non ∧ H = H') ⟨rfl, rfl⟩ ?_ ?_ ?_⟩
  · rintro i ys H' hi ⟨rfl, rfl⟩
    refine ⟨SqT.of hrp, ?_⟩
    rw [List.length_replicate]
    omega
  · rintro i x ys H' hx ⟨rfl, rfl⟩
    refine noTest ?_
    exact ⟨by rw [List.replicate_succ'], rfl⟩
  rintro ys H' ⟨rfl, rfl⟩ st hst0
  have s1 := same_new hst0 (.lst (List.replicate rs.length .non))
  -- stands[0] = (0, [slot for slot in range(count)])
  refine ⟨_, rfl, b.count, rfl, by omega, by omega, comp_range (n := b.count.toNat) (fun j ys H' => ys = (ran j).map V.int ∧ upd H st (.lst (List.replicate rs.length .non)) = H') ⟨rfl, rfl⟩ ?_ ?_ ?_⟩
  · rintro i ys H' hi ⟨rfl, rfl⟩
    rw [List.length_map, ran_len]
    omega
  · rintro i ys H' hi ⟨rfl, rfl⟩
    refine noTest ⟨_, rfl, ?_, rfl⟩
    unfold ran
    rw [List.range_succ, List.map_append, List.map_append]
    rfl
  rintro ys H' ⟨rfl, rfl⟩ kl0 hkl0
  have s2 := same_new hkl0 (.lst ((ran b.count.toNat).map V.int))
  refine ⟨two2, fun e0 he0 => ?_⟩
  have s3 := s2.trans (same_new he0 (.tup [.int 0, .ref kl0]))
  have hst1 := s3 _ _ (show (upd H st (.lst (List.replicate rs.length .non))) st = _ from upd_same)
  have nk0 : kl0 ≠ st := fun z => by subst z; rw [upd_same] at hkl0; cases hkl0
  have ne0 : e0 ≠ st := fun z => by subst z; rw [s2 _ _ upd_same] at he0; cases he0
  refine ⟨_, rfl, st, _, 0, 0, rfl, rfl, hst1, ixN_nat (j := 0) (by rw [List.length_replicate]; omega), ?_⟩
  have s4 : Same H (upd (upd (upd (upd H st (.lst (List.replicate rs.length .non))) kl0 (.lst ((ran b.count.toNat).map V.int))) e0 (.tup [.int 0, .ref kl0])) st (.lst ((List.replicate rs.length V.non).set 0 (.ref e0)))) := fun b o h => by
    rw [upd_ne (ne_of_none h hst0)]; exact (s1.trans s3) _ _ h
  have hst4 : (upd (upd (upd (upd H st (.lst (List.replicate rs.length .non))) kl0 (.lst ((ran b.count.toNat).map V.int))) e0 (.tup [.int 0, .ref kl0])) st (.lst ((List.replicate rs.length V.non).set 0 (.ref e0)))) st = some (.lst ((List.replicate rs.length V.non).set 0 (.ref e0))) := upd_same
  have hS4 : Sds st 1000 R (Met R 0) (upd (upd (upd (upd H st (.lst (List.replicate rs.length .non))) kl0 (.lst ((ran b.count.toNat).map V.int))) e0 (.tup [.int 0, .ref kl0])) st (.lst ((List.replicate rs.length V.non).set 0 (.ref e0)))) ((List.replicate rs.length V.non).set 0 (.ref e0)) := by
    refine ⟨by rw [List.length_set, List.length_replicate]; omega, fun j c k hj => ?_⟩
    have hjl := (List.getElem?_eq_some_iff.mp hj).1
    by_cases e : j = 0
    · subst e
      rw [hk0] at hj
      have e2 : ((⟨0, ran b.count.toNat⟩ : Crt), k0) = (c, k) := Option.some.inj hj
      injection e2 with e2 e3
      subst e2 e3
      refine ⟨.ref e0, by rw [List.getElem?_set_self (by rw [List.length_replicate]; omega)], .inr ⟨e0, kl0, ran b.count.toNat, rfl, by rw [upd_ne ne0]; exact upd_same, by rw [upd_ne nk0]; exact (same_new he0 _) _ _ upd_same, nk0, by rw [ran_len]; omega, fun m h => h⟩⟩
    · refine ⟨.non, by rw [List.getElem?_set_ne (Ne.symm e), List.getElem?_replicate, if_pos (by omega)], .inl ⟨rfl, fun z => ?_⟩⟩
      rcases z with z | ⟨j', _, _, z, _⟩
      · exact e z
      · omega
  generalize upd (upd (upd (upd H st (.lst (List.replicate rs.length .non))) kl0 (.lst ((ran b.count.toNat).map V.int))) e0 (.tup [.int 0, .ref kl0])) st (.lst ((List.replicate rs.length V.non).set 0 (.ref e0))) = H4 at s4 hst4 hS4 ⊢
  generalize (List.replicate rs.length V.non).set 0 (.ref e0) = ss4 at hst4 hS4
  -- the rows
  refine ⟨fun σ H' => ∃ a5 a6 a7 a8, σ = stG bp rp st b.count b.size a5 a6 a7 a8 ∧ Same H H', ?_, ?_⟩
  · refine ⟨_, rfl, _, _, rfl, .inr ⟨_, SqT.of (s4 _ _ hrp), rfl⟩, _, rfl, by omega, by omega, for_range (n := rs.length) (fun i σ H' => ∃ a5 a6 a7 a8 ss, σ = stG bp rp st b.count b.size a5 a6 a7 a8 ∧ Same H H' ∧ H' st = some (.lst ss) ∧ Sds st (1000 + i) R (Met R i) H' ss) ?_ ?_ ?_⟩
    · exact ⟨none, none, none, none, ss4, rfl, s4, hst4, hS4⟩
    · rintro i σ H1 hi ⟨a5, a6, a7, a8, ss, rfl, sm, hst, hS⟩
      have hiR : i < R.length := by omega
      obtain ⟨⟨c, k⟩, hik⟩ : ∃ x, R[i]? = some x := ⟨_, List.getElem?_eq_getElem hiR⟩
      obtain ⟨hrc, hbk, hb1, _, _⟩ := hR.ok i c k hik
      obtain ⟨hw, hld, hkp⟩ := hrc
      obtain ⟨v, hv, hor⟩ := hS.2 i c k hik
      have hstd : Std st (1000 + i) H1 c v := hor.resolve_left fun z => z.2 (hR.met hiR)
      obtain ⟨p, kl, ks, rfl, hp, hkl, nkl, hks, hM⟩ := hstd
      have hek : (encs R)[i]? = some (encR k) := by
        unfold encs
        rw [List.getElem?_map, hik]
        rfl
      obtain ⟨rv, hrv, a, rfl, ha⟩ := hrs.get' hek
      have e0 : (0 : Int) + (i : Nat) = (i : Nat) := by omega
      have hat : atI rs (0 + (i : Nat)) = some (.ref a) := by rw [e0]; exact atI_nat hrv
      have hats : atI ss (0 + (i : Nat)) = some (.ref p) := by rw [e0]; exact atI_nat hv
      have ha1 := sm _ _ ha
      have hrp1 := sm _ _ hrp
      -- row = rows[at]
      refine ⟨_, rfl, _, rfl, .inr (.inl ⟨rp, _, _, _, rfl, rfl, SqT.of hrp1, hat, ?_⟩)⟩
      -- if stands[at] is None
      refine ⟨_, rfl, _, rfl, .inl ⟨st, _, _, _, rfl, rfl, SqL.of hst, hats, rfl, _, rfl, ifF (by simp) ?_⟩⟩
      -- height, kept = stands[at]
      refine ⟨_, rfl, _, rfl, .inl ⟨st, _, _, _, rfl, rfl, SqL.of hst, hats, p, _, rfl, SqT.of hp, rfl, _, _, rfl, _, _, rfl, rfl, ?_⟩⟩
      -- if height < wants(row) or ..
      refine ⟨fun σ H' => σ = stG bp rp st b.count b.size (some (.int (0 + (i : Nat)))) (some (.ref a)) (some (.int (c.h : Nat))) (some (.ref kl)) ∧ Same H1 H', ?_, ?_⟩
      · refine ⟨_, rfl, _, rfl, a, k, rfl, ha1, fun H3 s3 => ⟨_, _, rfl, rfl, _, rfl, ifF (by simp; omega) ?_⟩⟩
        refine ⟨_, rfl, .inr (.inl ⟨a, _, 0, _, rfl, rfl, SqT.of (s3 _ _ ha1), atW k, .inl ⟨rfl, _, rfl, _, rfl, _, _, rfl, .inr ⟨_, SqT.of (s3 _ _ hrp1), rfl⟩, _, _, rfl, rfl, .inl ⟨rfl, .inl ⟨rfl, _, rfl, ifF ?_ ⟨rfl, s3⟩⟩⟩⟩⟩)⟩
        show ¬ (!decide (V.bl (decide (V.str (word k) = V.str "back")) = V.bl (decide (V.int (0 + (i : Nat)) = V.int ((rs.length : Nat) - 1))))) = true
        rw [wback]
        have e : isBack k = decide (V.int (0 + (i : Nat)) = V.int ((rs.length : Nat) - 1)) := by
          rw [Bool.eq_iff_iff, back_is, hbk, decide_eq_true_iff]
          constructor
          · intro z
            have : (0 : Int) + (i : Nat) = (rs.length : Nat) - 1 := by omega
            rw [this]
          · intro z
            injection z with z
            omega
        rw [e]
        simp
      rintro σ H2 ⟨rfl, sm2⟩
      have ha2 := sm2 _ _ ha1
      have hkl2 := sm2 _ _ hkl
      -- load, keep
      refine ⟨fun σ H' => σ = stG bp rp st b.count b.size (some (.int (0 + (i : Nat)))) (some (.ref a)) (some (.int (c.h : Nat))) (some (.ref kl)) ∧ Same H2 H', ?_, ?_⟩
      · refine ⟨_, rfl, .inr (.inl ⟨a, _, 0, _, rfl, rfl, SqT.of ha2, atW k, .inl ⟨rfl, _, rfl, ?_⟩⟩)⟩
        show if decide (V.str (word k) = V.str "load") = true then _ else _
        rw [wload]
        cases hl : isLoad k
        · refine ifF Bool.false_ne_true (ifF Bool.false_ne_true ?_)
          refine ⟨_, rfl, .inr (.inl ⟨a, _, 0, _, rfl, rfl, SqT.of ha2, atW k, two2, fun p2 hp2 => .inr (.inl ⟨p2, wlk, rfl, .inr (SqT.of upd_same), rfl, rfl, _, rfl, ?_⟩)⟩)⟩
          have s3 := same_new hp2 (.tup wlk)
          show if inV (.str (word k)) wlk = true then _ else _
          rw [inlk, hl]
          cases hk2 : isKeep k
          · exact ifF (by decide) (ifF Bool.false_ne_true ⟨rfl, s3⟩)
          · refine ifT rfl ?_
            cases k with
            | keep sl =>
              have hsl := hkp sl rfl
              exact ⟨_, rfl, .inr (.inl ⟨a, _, 1, _, rfl, rfl, SqT.of (s3 _ _ ha2), rfl, _, _, rfl, rfl, _, rfl, ifT (decide_eq_true hsl.1) ⟨_, rfl, _, _, rfl, rfl, _, rfl, ifF (by rw [decide_eq_true hsl.2]; decide) ⟨rfl, s3⟩⟩⟩)⟩
            | _ => cases hk2
        · refine ifT rfl ?_
          cases k with
          | load sl =>
            have hsl := hld sl rfl
            refine ⟨_, rfl, .inr (.inl ⟨a, _, 1, _, rfl, rfl, SqT.of ha2, rfl, _, rfl, .inr ⟨kl, _, rfl, .inl (SqL.of hkl2), rfl, flat_ints ks, _, rfl, ifF ?_ ?_⟩⟩)⟩
            · show ¬ (!inV (.int sl) (ks.map V.int)) = true
              rw [ints_in, decide_eq_true (hM sl hsl.1)]
              decide
            refine ⟨_, rfl, .inr (.inl ⟨a, _, 0, _, rfl, rfl, SqT.of ha2, rfl, two2, fun p2 hp2 => .inr (.inl ⟨p2, wlk, rfl, .inr (SqT.of upd_same), rfl, rfl, _, rfl, ifT rfl ?_⟩)⟩)⟩
            have s3 := same_new hp2 (.tup wlk)
            exact ⟨_, rfl, .inr (.inl ⟨a, _, 1, _, rfl, rfl, SqT.of (s3 _ _ ha2), rfl, _, _, rfl, rfl, _, rfl, ifT (decide_eq_true hsl.2.1) ⟨_, rfl, _, _, rfl, rfl, _, rfl, ifF (by rw [decide_eq_true hsl.2.2]; decide) ⟨rfl, s3⟩⟩⟩)⟩
          | _ => cases hl
      rintro σ H3 ⟨rfl, sm3⟩
      have s23 := sm2.trans sm3
      have ha3 := s23 _ _ ha1
      have hkl3 := s23 _ _ hkl
      have hst3 := s23 _ _ hst
      -- if row[0] == 'keep'
      refine ⟨fun σ H' => ∃ (kl' : Addr) (ks' : List Int), σ = stG bp rp st b.count b.size (some (.int (0 + (i : Nat)))) (some (.ref a)) (some (.int (c.h : Nat))) (some (.ref kl')) ∧ Same H1 H' ∧ kl' ≠ st ∧ H' kl' = some (.lst (ks'.map V.int)) ∧ ks'.length ≤ 1000 + (i + 1) ∧ ∀ m ∈ newM c k, m ∈ ks', ?_, ?_⟩
      · refine ⟨_, rfl, .inr (.inl ⟨a, _, 0, _, rfl, rfl, SqT.of ha3, atW k, .inl ⟨rfl, _, rfl, ?_⟩⟩)⟩
        show if decide (V.str (word k) = V.str "keep") = true then _ else _
        rw [wkeep]
        cases hl : isKeep k
        · refine ifF Bool.false_ne_true ⟨kl, ks, rfl, s23, nkl, hkl3, by omega, ?_⟩
          have e : newM c k = c.M := by cases k <;> first | rfl | (cases hl; done)
          rw [e]
          exact hM
        · refine ifT rfl ?_
          cases k with
          | keep sl =>
            refine ⟨_, rfl, _, rfl, .inr (.inl ⟨a, _, 1, _, rfl, rfl, SqT.of ha3, rfl, one1, fun l1 hl1 => .inr (.inr ⟨kl, l1, _, _, rfl, rfl, (same_new hl1 _) _ _ hkl3, upd_same, ?_, fun r hr0 => ?_⟩)⟩)⟩
            · rw [List.length_map]; simp only [List.length_cons, List.length_nil]; omega
            have s4 := (same_new hl1 (.lst [.int sl])).trans (same_new hr0 (.lst (ks.map V.int ++ [.int sl])))
            have nr : r ≠ st := fun z => by subst z; rw [(same_new hl1 _) _ _ hst3] at hr0; cases hr0
            refine ⟨r, ks ++ [sl], rfl, s23.trans s4, nr, by rw [upd_same, List.map_append]; rfl, by rw [List.length_append]; simp only [List.length_cons, List.length_nil]; omega, fun m hm => ?_⟩
            rcases List.mem_append.mp (show m ∈ c.M ++ [sl] from hm) with h | h
            · exact List.mem_append_left _ (hM m h)
            · exact List.mem_append_right _ h
          | _ => cases hl
      rintro σ H4' ⟨kl', ks', rfl, sm4, nkl', hkl', hks', hM'⟩
      have ha4 := sm4 _ _ ha1
      -- if row[0] == 'back' and height != 1
      refine ⟨fun σ H' => σ = stG bp rp st b.count b.size (some (.int (0 + (i : Nat)))) (some (.ref a)) (some (.int (c.h : Nat))) (some (.ref kl')) ∧ H4' = H', ?_, ?_⟩
      · refine ⟨_, rfl, .inr (.inl ⟨a, _, 0, _, rfl, rfl, SqT.of ha4, atW k, .inl ⟨rfl, _, rfl, ?_⟩⟩)⟩
        show if decide (V.str (word k) = V.str "back") = true then _ else _
        rw [wback]
        cases hl : isBack k
        · exact ifF Bool.false_ne_true (ifF Bool.false_ne_true ⟨rfl, rfl⟩)
        · refine ifT rfl ⟨_, rfl, .inl ⟨rfl, _, rfl, ifF ?_ ⟨rfl, rfl⟩⟩⟩
          rw [hb1 ((back_is k).mp hl)]
          decide
      rintro σ H' ⟨rfl, rfl⟩
      have hst4' := sm4 _ _ hst
      have hS4' := hS.same ⟨_, hst⟩ (.of sm4) (show 1000 + i ≤ 1000 + (i + 1) by omega) (fun _ z => z)
      refine ⟨_, rfl, _, rfl, _, rfl, _, rfl, _, rfl, a, k, rfl, ha4, fun H5 s5 => ⟨_, _, rfl, rfl, _, rfl, a, k, rfl, s5 _ _ ha4, fun H6 s6 => .inl ⟨_, _, rfl, rfl, _, rfl, ?_⟩⟩⟩
      have s56 := s5.trans s6
      have st6 := sm.trans (sm4.trans s56)
      refine ⟨st, rp, kl', _, _, i, c.h + leaves k - wants k, 1000 + (i + 1), b.count.toNat, b.size, R, ss, rs, ks', c, k, by omega, rfl, by omega, by omega, by omega, hR, hik, st6 _ _ hrp, hrs.imp fun _ _ h => h.mono (tups_of st6), s56 _ _ hst4', hS4'.same ⟨_, hst4'⟩ (.of s56) (Nat.le_refl _) (fun _ z => z), s56 _ _ hkl', nkl', hks', hM', fun H7 ss7 k7 hst7 hS7 => ⟨true, rfl, ifF (by decide) ?_⟩⟩
      exact ⟨_, _, _, _, ss7, rfl, fun b o h => k7 _ _ (st6 _ _ h) (ne_of_none h hst0), hst7, hS7⟩
    · rintro σ H' ⟨a5, a6, a7, a8, ss, rfl, sm, _⟩
      exact ⟨_, _, _, _, rfl, sm⟩
  rintro σ H5 ⟨a5, a6, a7, a8, rfl, sm5⟩
  refine ⟨_, rfl, _, rfl, _, _, rfl, rfl, ?_⟩
  show Q (.bl (decide (b.count ≤ b.size))) H5
  rw [decide_eq_true c2]
  exact q _ sm5
end
end CP
set_option maxHeartbeats 8000000
namespace CP
open PySem L2 BV
seal PE PT PW PA PS PSs PTs PI PG PGs PO
abbrev s_law : Stmt := BV.top 36
theorem sc_law : FnScope ["_law_script", "_law_blocks"] ["_law_script"] (defScope s_law) := ⟨rfl, rfl, rfl, by decide +kernel, rfl, by decide +kernel, by decide +kernel⟩
/-- every fn has one part -/
def OneKid (xs : List Pt) : Prop := ∀ x ∈ xs, ∃ ts sz b, x = .node (.fn ts sz) [b]
mutual
theorem PAt.kid1 {H : Hp} : ∀ (t : Pt) (v : V), PAt H t v → OneKid (fnl t)
  | .node l ks, v, h, x, hx => by
    obtain ⟨p, xs, vs, rfl, hp, hs, hk⟩ := h
    rcases List.mem_append.mp (show x ∈ (if Pt.isFn l then [Pt.node l ks] else []) ++ fnls ks from hx) with h | h
    · cases hb : Pt.isFn l
      · rw [hb] at h; cases h
      · rw [hb] at h
        rw [List.mem_singleton.mp h]
        obtain ⟨ts, sz, a, p, rfl, rfl, rfl, _⟩ := fn_shape hs hb
        have h9 := hk.all2.len
        match ks, h9 with
        | [b], _ => exact ⟨ts, sz, b, rfl⟩
    · exact PsAt.kid1 ks vs hk x h
theorem PsAt.kid1 {H : Hp} : ∀ (ks : List Pt) (vs : List V), PsAt H ks vs → OneKid (fnls ks)
  | [], vs, h, x, hx => by cases hx
  | t :: r, vs, h, x, hx => by
    obtain ⟨u, us, rfl, h1, h2⟩ := h
    rcases List.mem_append.mp (show x ∈ fnl t ++ fnls r from hx) with h | h
    · exact PAt.kid1 t u h1 x h
    · exact PsAt.kid1 r us h2 x h
end
theorem allf_kid1 {H : Hp} {gs : List Fn3} {fs : List V} (h : All2 (Fn3At H) gs fs) : OneKid (allf gs) := by
  induction h with
  | nil => exact fun x hx => by cases hx
  | @cons g v gs fs hg _ ih =>
    obtain ⟨p, b, _, _, hb⟩ := hg
    intro x hx
    rcases List.mem_append.mp (show x ∈ fnl g.body ++ allf gs from hx) with h | h
    · exact PAt.kid1 _ _ hb x h
    · exact ih x h
theorem sumf_le {gs : List Fn3} {n : Nat} (h : ∀ g ∈ gs, g.body.size ≤ n) : sumf gs ≤ gs.length * n := by
  induction gs with
  | nil => exact Nat.zero_le _
  | cons g r ih =>
    have h1 := h g (List.mem_cons_self ..)
    have h2 := Pt.fns_le g.body
    have h3 := ih fun x hx => h x (List.mem_cons_of_mem _ hx)
    simp only [sumf, List.map_cons, List.sum_cons, List.length_cons, Nat.add_mul, Nat.one_mul] at h3 ⊢
    omega
theorem allf_sok {gs : List Fn3} (h : ∀ g ∈ gs, SOk g.size g.count g.body) : ∀ x ∈ allf gs, ∃ ts n kb, x = .node (.fn ts n) [kb] ∧ (ts.length : Int) + 1 ≤ n ∧ ts.length ≤ 30 ∧ SOk n ((ts.length : Int) + 1) kb := by
  induction gs with
  | nil => exact fun x hx => by cases hx
  | cons g r ih =>
    intro x hx
    rcases List.mem_append.mp (show x ∈ fnl g.body ++ allf r from hx) with h1 | h1
    · exact SOk.fnl _ _ _ _ (h g (List.mem_cons_self ..)) h1
    · exact ih (fun g hg => h g (List.mem_cons_of_mem _ hg)) x h1
theorem PsAt.mem {H : Hp} : ∀ {ks : List Pt} {vs : List V}, PsAt H ks vs → ∀ k ∈ ks, ∃ v, PAt H k v
  | [], vs, h, k, hk => by cases hk
  | t :: r, vs, h, k, hk => by
    obtain ⟨u, us, rfl, h1, h2⟩ := h
    rcases List.mem_cons.mp hk with rfl | hk
    · exact ⟨u, h1⟩
    · exact PsAt.mem h2 k hk
mutual
theorem PAt.sub {H : Hp} : ∀ (t : Pt) (v : V), PAt H t v → ∀ x ∈ fnl t, ∃ u, PAt H x u
  | .node l ks, v, h, x, hx => by
    have h' := h
    obtain ⟨p, xs, vs, rfl, hp, hs, hk⟩ := h
    rcases List.mem_append.mp (show x ∈ (if Pt.isFn l then [Pt.node l ks] else []) ++ fnls ks from hx) with h | h
    · cases hb : Pt.isFn l
      · rw [hb] at h; cases h
      · rw [hb] at h
        rw [List.mem_singleton.mp h]
        exact ⟨_, h'⟩
    · exact PsAt.sub ks vs hk x h
theorem PsAt.sub {H : Hp} : ∀ (ks : List Pt) (vs : List V), PsAt H ks vs → ∀ x ∈ fnls ks, ∃ u, PAt H x u
  | [], vs, h, x, hx => by cases hx
  | t :: r, vs, h, x, hx => by
    obtain ⟨u, us, rfl, h1, h2⟩ := h
    rcases List.mem_append.mp (show x ∈ fnl t ++ fnls r from hx) with h | h
    · exact PAt.sub t u h1 x h
    · exact PsAt.sub r us h2 x h
end
theorem allf_at2 {H : Hp} {gs : List Fn3} {fs : List V} (h : All2 (Fn3At H) gs fs) {n : Nat} (hn : ∀ g ∈ gs, g.body.size ≤ n) : ∀ x ∈ allf gs, (∃ u, PAt H x u) ∧ x.size ≤ n := by
  induction h with
  | nil => exact fun x hx => by cases hx
  | @cons g v gs fs hg _ ih =>
    obtain ⟨p, b, _, _, hb⟩ := hg
    intro x hx
    rcases List.mem_append.mp (show x ∈ fnl g.body ++ allf gs from hx) with h | h
    · exact ⟨PAt.sub _ _ hb x h, Nat.le_trans (fnl_size _ _ h) (hn g (List.mem_cons_self ..))⟩
    · exact ih (fun g hg => hn g (List.mem_cons_of_mem _ hg)) x h
theorem blocks_c {H : Hp} {gs : List Fn3} {fs : List V} (h : All2 (Fn3At H) gs fs) (hn : ∀ g ∈ gs, g.body.size ≤ 400000) (hs : ∀ g ∈ gs, 0 ≤ g.count ∧ g.count ≤ 4 ∧ g.count ≤ g.size ∧ SOk g.size g.count g.body) : ∀ b ∈ blocksOf gs, BlkC b := by
  have hrl : ∀ (t : Pt) (v : V) (fi : Int), PAt H t v → t.size ≤ 400000 → (rows t fi).length ≤ 12800000 := fun t v fi h hs => by
    have h1 := rows_len t v fi h
    have h2 := rsize_le t
    omega
  intro b hb
  rcases List.mem_append.mp hb with h1 | h1
  · obtain ⟨i, hi⟩ := List.getElem?_of_mem h1
    rw [fblk_at] at hi
    obtain ⟨g, hg, rfl⟩ := Option.map_eq_some_iff.mp hi
    have hgm := List.mem_of_getElem? hg
    obtain ⟨u, hu, p, bv, rfl, hp, hbv⟩ := h.get' hg
    obtain ⟨q0, q1, q2, q3⟩ := hs g hgm
    exact blkc_of q0 (by omega) q2 q3 (hrl _ _ _ hbv (hn g hgm))
  · obtain ⟨i, hi⟩ := List.getElem?_of_mem h1
    rw [fblocks_at] at hi
    obtain ⟨x, hx, rfl⟩ := Option.map_eq_some_iff.mp hi
    have hxm := List.mem_of_getElem? hx
    obtain ⟨ts, n, kb, rfl, q1, q2, q3⟩ := allf_sok (fun g hg => (hs g hg).2.2.2) x hxm
    obtain ⟨⟨u, hu⟩, hsz⟩ := allf_at2 h hn _ hxm
    obtain ⟨p, xs, vs, rfl, hp, hsh, hk⟩ := hu
    obtain ⟨w, hw⟩ := PsAt.mem hk kb (by simp)
    have h2 := Pt.kid_size (t := .node (.fn ts n) [kb]) (k := kb) (by simp [Pt.kids])
    exact blkc_of (by omega) (by omega) q1 q3 (hrl _ _ _ hw (by omega))
section
variable {P : Program} {w : World} {K : PySem.W.Frag} {mg : Str → Option Value} {base : Heap} {f : Addr} {fd : FuncData} {f_law_program f_compiled f_law_good : Addr} {d_law_program d_compiled d_law_good : FuncData}
def spLaw (K : PySem.W.Frag) : Sp := fun vs H Q _ => ∃ (a : Addr) (ns : List Int), vs = [.ref a] ∧ SqL K H a (ns.map V.int) ∧ ns.length ≤ 63 ∧ ∀ H', Q (.bl true) H'
theorem ok_law (F : Fun K "law" "law" s_law f fd) (B : BV.NoG mg)
    (G_law_program : FnOk P w K mg base CX0 32 f_law_program d_law_program ["_law_script"] (spProgram K)) (b_law_program : Binds K d_law_program ["_law_script"] []) (k_law_program : PySem.W.keepIn K (.ref f_law_program) = true) (m_law_program : mg "_law_program" = some (.ref f_law_program))
    (G_compiled : FnOk P w K mg base CX0 7 f_compiled d_compiled ["placed"] spCompiled) (b_compiled : Binds K d_compiled ["placed"] []) (k_compiled : PySem.W.keepIn K (.ref f_compiled) = true) (m_compiled : mg "compiled" = some (.ref f_compiled))
    (G_law_good : FnOk P w K mg base CX0 3 f_law_good d_law_good ["_law_block"] spGood) (b_law_good : Binds K d_law_good ["_law_block"] []) (k_law_good : PySem.W.keepIn K (.ref f_law_good) = true) (m_law_good : mg "_law_good" = some (.ref f_law_good)) :
    FnOk P w K mg base CX0 33 f fd ["_law_script"] (spLaw K) := by
  refine F.ok sc_law (fun vs H Q E h => ?_) (fun cdv A outer s H vs Q E hr h => ?_)
  · obtain ⟨a, ns, rfl, _⟩ := h
    rfl
  obtain ⟨sa, ns, rfl, hS, hn, q⟩ := h
  have nd := sc_law.nd
  have hu := hr.units0
  have zz : (16000000 : Nat) ≤ sizeLine := by decide
  refine ⟨_, (pss_cons (ps_set (i := 1) nd rfl (Or.inl rfl) (pe_ix (kIx (K := K) (w := w)) (pe_call G_compiled (hr.mono (by first | decide | omega)) rfl m_compiled k_compiled b_compiled .nil pass0 (pa_cons (pe_call G_law_program (hr.mono (by first | decide | omega)) rfl m_law_program k_law_program b_law_program .nil pass0 (pa_cons (pv 0) pa_nil)) pa_nil)) pe_int (fun _ _ => rfl)))
      (pss_one (ps_ret (pe_callB (k_all (K := K) rfl) rfl B.all_ bt_all (pa_cons (pe_comp (CompScope.mk (N := ["_law_script", "_law_blocks"]) (sc := defScope s_law) (caps := []) (ns := []) (by decide +kernel) rfl (by decide +kernel) rfl (by decide +kernel) rfl (by decide +kernel) (by decide +kernel)) rfl rfl rfl (k_ilist (K := K) (pv 1)) (fun _ _ _ _ _ => pts_nil) (fun _ _ _ _ _ => (pe_call G_law_good (hr.mono (by first | decide | omega)) rfl m_law_good k_law_good b_law_good .nil pass0 (pa_cons (pv 0) pa_nil)))) pa_nil))))), ?_⟩
  refine ⟨_, rfl, sa, ns, rfl, hS, hn, fun pa fl gs fs main H1 hgs hpa hfl hG => ?_⟩
  obtain ⟨g1, g2, g3, g4, g5⟩ := hgs
  have hGl := hG.len
  have sz8 : szB 8 = 87381 := by decide
  have g3' : ∀ g ∈ gs, g.body.size ≤ 400000 := fun g hg => by have := g3 g hg; omega
  have hsf : sumf gs ≤ 8000000 := by
    have h1 := sumf_le g3
    have h2 : gs.length * szB 8 ≤ 12 * szB 8 := Nat.mul_le_mul_right _ g2
    omega
  have hall := blocks_c hG g3' g5
  refine ⟨pa, fl, gs, fs, main, rfl, hpa, hfl, hG, by omega, hsf, g3', fun ra ba H3 us s3 hra hba hB => ?_⟩
  have hBl := hB.len
  have hbl : (blocksOf gs).length = gs.length + sumf gs := by unfold blocksOf; rw [List.length_append, fblk_len, fblocks_len, allf_len]
  refine .inr (.inl ⟨ra, _, 0, _, rfl, rfl, SqT.of hra, rfl, ?_⟩)
  -- all([..])
  refine ⟨_, rfl, ba, rfl, ⟨us, SqL.of hba⟩, comp_list (xs := us) (fun j ys H' => ys = List.replicate j (.bl true) ∧ Same H3 H') ⟨rfl, Same.refl _⟩ ?_ ?_ ?_⟩
  · rintro i ys H' hi ⟨rfl, sm8⟩
    refine ⟨SqL.of (sm8 _ _ hba), ?_⟩
    rw [List.length_replicate]
    omega
  · rintro i x ys H' hx ⟨rfl, sm8⟩
    refine noTest ?_
    obtain ⟨b, hb, hbx⟩ := hB.get hx
    refine ⟨_, rfl, b, x, rfl, hbx.mono (tups_of sm8), hall b (List.mem_of_getElem? hb), fun H9 s9 => ⟨?_, sm8.trans s9⟩⟩
    rw [List.replicate_succ']
  rintro ys H8 ⟨rfl, sm8⟩ D hD
  refine ⟨D, List.replicate us.length true, rfl, SqL.of ?_, ?_⟩
  · rw [upd_same, List.map_replicate]
  · have e : (List.replicate us.length true).all id = true := by simp
    rw [e]
    exact q _
end
end CP
def PySem.W.Fast.tw4562714925941439803 : Unit := ()
def PySem.W.Fast.tw11525092637714246806 : Unit := ()
def PySem.W.Fast.tw12127612747853227054 : Unit := ()
def PySem.W.Fast.tw11857066200128393780 : Unit := ()
def PySem.W.Fast.tw9630618114399305528 : Unit := ()
def PySem.W.Fast.tw6864317023094226265 : Unit := ()
def PySem.W.Fast.tw10110827761121685655 : Unit := ()
def PySem.W.Fast.tw5827962547700059508 : Unit := ()
def PySem.W.Fast.tw2167411703753518162 : Unit := ()
def PySem.W.Fast.tw16109449694717283291 : Unit := ()
def PySem.W.Fast.tw6553257950595607479 : Unit := ()
def PySem.W.Fast.tw13078143029004759897 : Unit := ()
def PySem.W.Fast.tw13574873818227261633 : Unit := ()
def PySem.W.Fast.tw149104862456798233 : Unit := ()
def PySem.W.Fast.tw2140992411078563710 : Unit := ()
def PySem.W.Fast.tw4850531568509644683 : Unit := ()
set_option maxHeartbeats 4000000
namespace CP
open PySem L2 BV
theorem all_mk {l : PySem.W.OpenLaw} {w : World} {K : PySem.W.Frag} {h : Heap} {mg : Str → Option Value} {fa : Addr} (X : K.In h) (G : h.Ns mainGlobals mg) (hfa : mg "law" = some (.ref fa))
    {f0 f1 f2 f3 f4 f5 f6 f7 f8 f9 f10 f11 f12 f13 f14 f15 f16 f17 f18 f19 f20 f21 f22 f23 f24 f25 f26 f27 f28 f29 : Addr} {od0 an0 od1 an1 od2 an2 od3 an3 od4 an4 od5 an5 od6 an6 od7 an7 od8 an8 od9 an9 od10 an10 od11 an11 od12 an12 od13 an13 od14 an14 od15 an15 od16 an16 od17 an17 od18 an18 od19 an19 od20 an20 od21 an21 od22 an22 od23 an23 od24 an24 od25 an25 od26 an26 od27 an27 od28 an28 od29 an29 : Option Addr} {sl0 sl1 sl2 sl3 sl4 sl5 sl6 sl7 sl8 sl9 sl10 sl11 sl12 sl13 sl14 sl15 sl16 sl17 sl18 sl19 sl20 sl21 sl22 sl23 sl24 sl25 sl26 sl27 sl28 sl29 : Array (Option Value)} {oc0 kV0 dc0 pm0 cd0 ct0 oc1 kV1 dc1 pm1 cd1 ct1 oc2 kV2 dc2 pm2 cd2 ct2 oc3 kV3 dc3 pm3 cd3 ct3 oc4 kV4 dc4 pm4 cd4 ct4 oc5 kV5 dc5 pm5 cd5 ct5 oc6 kV6 dc6 pm6 cd6 ct6 oc7 kV7 dc7 pm7 cd7 ct7 oc8 kV8 dc8 pm8 cd8 ct8 oc9 kV9 dc9 pm9 cd9 ct9 oc10 kV10 dc10 pm10 cd10 ct10 oc11 kV11 dc11 pm11 cd11 ct11 oc12 kV12 dc12 pm12 cd12 ct12 oc13 kV13 dc13 pm13 cd13 ct13 oc14 kV14 dc14 pm14 cd14 ct14 oc15 kV15 dc15 pm15 cd15 ct15 oc16 kV16 dc16 pm16 cd16 ct16 oc17 kV17 dc17 pm17 cd17 ct17 oc18 kV18 dc18 pm18 cd18 ct18 oc19 kV19 dc19 pm19 cd19 ct19 oc20 kV20 dc20 pm20 cd20 ct20 oc21 kV21 dc21 pm21 cd21 ct21 oc22 kV22 dc22 pm22 cd22 ct22 oc23 kV23 dc23 pm23 cd23 ct23 oc24 kV24 dc24 pm24 cd24 ct24 oc25 kV25 dc25 pm25 cd25 ct25 oc26 kV26 dc26 pm26 cd26 ct26 oc27 kV27 dc27 pm27 cd27 ct27 oc28 kV28 dc28 pm28 cd28 ct28 oc29 kV29 dc29 pm29 cd29 ct29 : Value}
    {pf_PARTS_FROM : Addr} {es_PARTS_FROM : Array DictEntry} {nes_PARTS_FROM : Nat}
    {pf_SIGN_ROWS : Addr} {es_SIGN_ROWS : Array DictEntry} {nes_SIGN_ROWS : Nat}
    (a0 : PySem.W.nsIn K mainGlobals "parts_of" = some (some (.ref f0))) (l0 : K.lookup f0 = some ⟨oc0, od0, .func (PySem.W.fnOf "parts_of" "parts_of" (defArgs s_parts_of) (defBody s_parts_of) (defScope s_parts_of) .none kV0 dc0 pm0 an0 cd0 ct0), sl0⟩) (c0 : PySem.W.codeIn K cd0 "parts_of" = true) (k0 : PySem.W.keepIn K (.ref f0) = true)
    (a1 : PySem.W.nsIn K mainGlobals "built_up" = some (some (.ref f1))) (l1 : K.lookup f1 = some ⟨oc1, od1, .func (PySem.W.fnOf "built_up" "built_up" (defArgs s_built_up) (defBody s_built_up) (defScope s_built_up) .none kV1 dc1 pm1 an1 cd1 ct1), sl1⟩) (c1 : PySem.W.codeIn K cd1 "built_up" = true) (k1 : PySem.W.keepIn K (.ref f1) = true)
    (a2 : PySem.W.nsIn K mainGlobals "placed_parts" = some (some (.ref f2))) (l2 : K.lookup f2 = some ⟨oc2, od2, .func (PySem.W.fnOf "placed_parts" "placed_parts" (defArgs s_placed_parts) (defBody s_placed_parts) (defScope s_placed_parts) .none kV2 dc2 pm2 an2 cd2 ct2), sl2⟩) (c2 : PySem.W.codeIn K cd2 "placed_parts" = true) (k2 : PySem.W.keepIn K (.ref f2) = true)
    (a3 : PySem.W.nsIn K mainGlobals "with_count" = some (some (.ref f3))) (l3 : K.lookup f3 = some ⟨oc3, od3, .func (PySem.W.fnOf "with_count" "with_count" (defArgs s_with_count) (defBody s_with_count) (defScope s_with_count) .none kV3 dc3 pm3 an3 cd3 ct3), sl3⟩) (c3 : PySem.W.codeIn K cd3 "with_count" = true) (k3 : PySem.W.keepIn K (.ref f3) = true)
    (a4 : PySem.W.nsIn K mainGlobals "counted" = some (some (.ref f4))) (l4 : K.lookup f4 = some ⟨oc4, od4, .func (PySem.W.fnOf "counted" "counted" (defArgs s_counted) (defBody s_counted) (defScope s_counted) .none kV4 dc4 pm4 an4 cd4 ct4), sl4⟩) (c4 : PySem.W.codeIn K cd4 "counted" = true) (k4 : PySem.W.keepIn K (.ref f4) = true)
    (a5 : PySem.W.nsIn K mainGlobals "last_row" = some (some (.ref f5))) (l5 : K.lookup f5 = some ⟨oc5, od5, .func (PySem.W.fnOf "last_row" "last_row" (defArgs s_last_row) (defBody s_last_row) (defScope s_last_row) .none kV5 dc5 pm5 an5 cd5 ct5), sl5⟩) (c5 : PySem.W.codeIn K cd5 "last_row" = true) (k5 : PySem.W.keepIn K (.ref f5) = true)
    (a6 : PySem.W.nsIn K mainGlobals "one_behind_the_other" = some (some (.ref f6))) (l6 : K.lookup f6 = some ⟨oc6, od6, .func (PySem.W.fnOf "one_behind_the_other" "one_behind_the_other" (defArgs s_one_behind_the_other) (defBody s_one_behind_the_other) (defScope s_one_behind_the_other) .none kV6 dc6 pm6 an6 cd6 ct6), sl6⟩) (c6 : PySem.W.codeIn K cd6 "one_behind_the_other" = true) (k6 : PySem.W.keepIn K (.ref f6) = true)
    (a7 : PySem.W.nsIn K mainGlobals "rows_of_if" = some (some (.ref f7))) (l7 : K.lookup f7 = some ⟨oc7, od7, .func (PySem.W.fnOf "rows_of_if" "rows_of_if" (defArgs s_rows_of_if) (defBody s_rows_of_if) (defScope s_rows_of_if) .none kV7 dc7 pm7 an7 cd7 ct7), sl7⟩) (c7 : PySem.W.codeIn K cd7 "rows_of_if" = true) (k7 : PySem.W.keepIn K (.ref f7) = true)
    (a8 : PySem.W.nsIn K mainGlobals "numbered_parts" = some (some (.ref f8))) (l8 : K.lookup f8 = some ⟨oc8, od8, .func (PySem.W.fnOf "numbered_parts" "numbered_parts" (defArgs s_numbered_parts) (defBody s_numbered_parts) (defScope s_numbered_parts) .none kV8 dc8 pm8 an8 cd8 ct8), sl8⟩) (c8 : PySem.W.codeIn K cd8 "numbered_parts" = true) (k8 : PySem.W.keepIn K (.ref f8) = true)
    (a9 : PySem.W.nsIn K mainGlobals "rows_with" = some (some (.ref f9))) (l9 : K.lookup f9 = some ⟨oc9, od9, .func (PySem.W.fnOf "rows_with" "rows_with" (defArgs s_rows_with) (defBody s_rows_with) (defScope s_rows_with) .none kV9 dc9 pm9 an9 cd9 ct9), sl9⟩) (c9 : PySem.W.codeIn K cd9 "rows_with" = true) (k9 : PySem.W.keepIn K (.ref f9) = true)
    (a10 : PySem.W.nsIn K mainGlobals "rows_of_counted" = some (some (.ref f10))) (l10 : K.lookup f10 = some ⟨oc10, od10, .func (PySem.W.fnOf "rows_of_counted" "rows_of_counted" (defArgs s_rows_of_counted) (defBody s_rows_of_counted) (defScope s_rows_of_counted) .none kV10 dc10 pm10 an10 cd10 ct10), sl10⟩) (c10 : PySem.W.codeIn K cd10 "rows_of_counted" = true) (k10 : PySem.W.keepIn K (.ref f10) = true)
    (a11 : PySem.W.nsIn K mainGlobals "block_of" = some (some (.ref f11))) (l11 : K.lookup f11 = some ⟨oc11, od11, .func (PySem.W.fnOf "block_of" "block_of" (defArgs s_block_of) (defBody s_block_of) (defScope s_block_of) .none kV11 dc11 pm11 an11 cd11 ct11), sl11⟩) (c11 : PySem.W.codeIn K cd11 "block_of" = true) (k11 : PySem.W.keepIn K (.ref f11) = true)
    (a12 : PySem.W.nsIn K mainGlobals "every_fn" = some (some (.ref f12))) (l12 : K.lookup f12 = some ⟨oc12, od12, .func (PySem.W.fnOf "every_fn" "every_fn" (defArgs s_every_fn) (defBody s_every_fn) (defScope s_every_fn) .none kV12 dc12 pm12 an12 cd12 ct12), sl12⟩) (c12 : PySem.W.codeIn K cd12 "every_fn" = true) (k12 : PySem.W.keepIn K (.ref f12) = true)
    (a13 : PySem.W.nsIn K mainGlobals "blocks_of_fns" = some (some (.ref f13))) (l13 : K.lookup f13 = some ⟨oc13, od13, .func (PySem.W.fnOf "blocks_of_fns" "blocks_of_fns" (defArgs s_blocks_of_fns) (defBody s_blocks_of_fns) (defScope s_blocks_of_fns) .none kV13 dc13 pm13 an13 cd13 ct13), sl13⟩) (c13 : PySem.W.codeIn K cd13 "blocks_of_fns" = true) (k13 : PySem.W.keepIn K (.ref f13) = true)
    (a14 : PySem.W.nsIn K mainGlobals "compiled" = some (some (.ref f14))) (l14 : K.lookup f14 = some ⟨oc14, od14, .func (PySem.W.fnOf "compiled" "compiled" (defArgs s_compiled) (defBody s_compiled) (defScope s_compiled) .none kV14 dc14 pm14 an14 cd14 ct14), sl14⟩) (c14 : PySem.W.codeIn K cd14 "compiled" = true) (k14 : PySem.W.keepIn K (.ref f14) = true)
    (a15 : PySem.W.nsIn K mainGlobals "_law_cell_at" = some (some (.ref f15))) (l15 : K.lookup f15 = some ⟨oc15, od15, .func (PySem.W.fnOf "_law_cell_at" "_law_cell_at" (defArgs s_law_cell_at) (defBody s_law_cell_at) (defScope s_law_cell_at) .none kV15 dc15 pm15 an15 cd15 ct15), sl15⟩) (c15 : PySem.W.codeIn K cd15 "_law_cell_at" = true) (k15 : PySem.W.keepIn K (.ref f15) = true)
    (a16 : PySem.W.nsIn K mainGlobals "_law_next" = some (some (.ref f16))) (l16 : K.lookup f16 = some ⟨oc16, od16, .func (PySem.W.fnOf "_law_next" "_law_next" (defArgs s_law_next) (defBody s_law_next) (defScope s_law_next) .none kV16 dc16 pm16 an16 cd16 ct16), sl16⟩) (c16 : PySem.W.codeIn K cd16 "_law_next" = true) (k16 : PySem.W.keepIn K (.ref f16) = true)
    (a17 : PySem.W.nsIn K mainGlobals "_law_leaf" = some (some (.ref f17))) (l17 : K.lookup f17 = some ⟨oc17, od17, .func (PySem.W.fnOf "_law_leaf" "_law_leaf" (defArgs s_law_leaf) (defBody s_law_leaf) (defScope s_law_leaf) .none kV17 dc17 pm17 an17 cd17 ct17), sl17⟩) (c17 : PySem.W.codeIn K cd17 "_law_leaf" = true) (k17 : PySem.W.keepIn K (.ref f17) = true)
    (a18 : PySem.W.nsIn K mainGlobals "_law_parts" = some (some (.ref f18))) (l18 : K.lookup f18 = some ⟨oc18, od18, .func (PySem.W.fnOf "_law_parts" "_law_parts" (defArgs s_law_parts) (defBody s_law_parts) (defScope s_law_parts) .none kV18 dc18 pm18 an18 cd18 ct18), sl18⟩) (c18 : PySem.W.codeIn K cd18 "_law_parts" = true) (k18 : PySem.W.keepIn K (.ref f18) = true)
    (a19 : PySem.W.nsIn K mainGlobals "_law_size" = some (some (.ref f19))) (l19 : K.lookup f19 = some ⟨oc19, od19, .func (PySem.W.fnOf "_law_size" "_law_size" (defArgs s_law_size) (defBody s_law_size) (defScope s_law_size) .none kV19 dc19 pm19 an19 cd19 ct19), sl19⟩) (c19 : PySem.W.codeIn K cd19 "_law_size" = true) (k19 : PySem.W.keepIn K (.ref f19) = true)
    (a20 : PySem.W.nsIn K mainGlobals "_law_term" = some (some (.ref f20))) (l20 : K.lookup f20 = some ⟨oc20, od20, .func (PySem.W.fnOf "_law_term" "_law_term" (defArgs s_law_term) (defBody s_law_term) (defScope s_law_term) .none kV20 dc20 pm20 an20 cd20 ct20), sl20⟩) (c20 : PySem.W.codeIn K cd20 "_law_term" = true) (k20 : PySem.W.keepIn K (.ref f20) = true)
    (a21 : PySem.W.nsIn K mainGlobals "_law_fn" = some (some (.ref f21))) (l21 : K.lookup f21 = some ⟨oc21, od21, .func (PySem.W.fnOf "_law_fn" "_law_fn" (defArgs s_law_fn) (defBody s_law_fn) (defScope s_law_fn) .none kV21 dc21 pm21 an21 cd21 ct21), sl21⟩) (c21 : PySem.W.codeIn K cd21 "_law_fn" = true) (k21 : PySem.W.keepIn K (.ref f21) = true)
    (a22 : PySem.W.nsIn K mainGlobals "_law_call" = some (some (.ref f22))) (l22 : K.lookup f22 = some ⟨oc22, od22, .func (PySem.W.fnOf "_law_call" "_law_call" (defArgs s_law_call) (defBody s_law_call) (defScope s_law_call) .none kV22 dc22 pm22 an22 cd22 ct22), sl22⟩) (c22 : PySem.W.codeIn K cd22 "_law_call" = true) (k22 : PySem.W.keepIn K (.ref f22) = true)
    (a23 : PySem.W.nsIn K mainGlobals "_law_program" = some (some (.ref f23))) (l23 : K.lookup f23 = some ⟨oc23, od23, .func (PySem.W.fnOf "_law_program" "_law_program" (defArgs s_law_program) (defBody s_law_program) (defScope s_law_program) .none kV23 dc23 pm23 an23 cd23 ct23), sl23⟩) (c23 : PySem.W.codeIn K cd23 "_law_program" = true) (k23 : PySem.W.keepIn K (.ref f23) = true)
    (a24 : PySem.W.nsIn K mainGlobals "_law_wants" = some (some (.ref f24))) (l24 : K.lookup f24 = some ⟨oc24, od24, .func (PySem.W.fnOf "_law_wants" "_law_wants" (defArgs s_law_wants) (defBody s_law_wants) (defScope s_law_wants) .none kV24 dc24 pm24 an24 cd24 ct24), sl24⟩) (c24 : PySem.W.codeIn K cd24 "_law_wants" = true) (k24 : PySem.W.keepIn K (.ref f24) = true)
    (a25 : PySem.W.nsIn K mainGlobals "_law_leaves" = some (some (.ref f25))) (l25 : K.lookup f25 = some ⟨oc25, od25, .func (PySem.W.fnOf "_law_leaves" "_law_leaves" (defArgs s_law_leaves) (defBody s_law_leaves) (defScope s_law_leaves) .none kV25 dc25 pm25 an25 cd25 ct25), sl25⟩) (c25 : PySem.W.codeIn K cd25 "_law_leaves" = true) (k25 : PySem.W.keepIn K (.ref f25) = true)
    (a26 : PySem.W.nsIn K mainGlobals "_law_meet" = some (some (.ref f26))) (l26 : K.lookup f26 = some ⟨oc26, od26, .func (PySem.W.fnOf "_law_meet" "_law_meet" (defArgs s_law_meet) (defBody s_law_meet) (defScope s_law_meet) .none kV26 dc26 pm26 an26 cd26 ct26), sl26⟩) (c26 : PySem.W.codeIn K cd26 "_law_meet" = true) (k26 : PySem.W.keepIn K (.ref f26) = true)
    (a27 : PySem.W.nsIn K mainGlobals "_law_goes" = some (some (.ref f27))) (l27 : K.lookup f27 = some ⟨oc27, od27, .func (PySem.W.fnOf "_law_goes" "_law_goes" (defArgs s_law_goes) (defBody s_law_goes) (defScope s_law_goes) .none kV27 dc27 pm27 an27 cd27 ct27), sl27⟩) (c27 : PySem.W.codeIn K cd27 "_law_goes" = true) (k27 : PySem.W.keepIn K (.ref f27) = true)
    (a28 : PySem.W.nsIn K mainGlobals "_law_good" = some (some (.ref f28))) (l28 : K.lookup f28 = some ⟨oc28, od28, .func (PySem.W.fnOf "_law_good" "_law_good" (defArgs s_law_good) (defBody s_law_good) (defScope s_law_good) .none kV28 dc28 pm28 an28 cd28 ct28), sl28⟩) (c28 : PySem.W.codeIn K cd28 "_law_good" = true) (k28 : PySem.W.keepIn K (.ref f28) = true)
    (a29 : PySem.W.nsIn K mainGlobals "law" = some (some (.ref f29))) (l29 : K.lookup f29 = some ⟨oc29, od29, .func (PySem.W.fnOf "law" "law" (defArgs s_law) (defBody s_law) (defScope s_law) .none kV29 dc29 pm29 an29 cd29 ct29), sl29⟩) (c29 : PySem.W.codeIn K cd29 "law" = true) (k29 : PySem.W.keepIn K (.ref f29) = true)
    (aD_PARTS_FROM : PySem.W.nsIn K mainGlobals "PARTS_FROM" = some (some (.ref pf_PARTS_FROM))) (lD_PARTS_FROM : K.lookup pf_PARTS_FROM = some ⟨.type "dict", none, .dict es_PARTS_FROM nes_PARTS_FROM, #[]⟩) (kD_PARTS_FROM : PySem.W.KeysLit w.params es_PARTS_FROM.toList) (pD_PARTS_FROM : Paired (fun (p : Str × V) (e : DictEntry) => (∃ t, e.key = .str p.1 t) ∧ RelV p.2 e.val) PF es_PARTS_FROM.toList) (oD_PARTS_FROM : (pf_PARTS_FROM == sysModules) = false)
    (aD_SIGN_ROWS : PySem.W.nsIn K mainGlobals "SIGN_ROWS" = some (some (.ref pf_SIGN_ROWS))) (lD_SIGN_ROWS : K.lookup pf_SIGN_ROWS = some ⟨.type "dict", none, .dict es_SIGN_ROWS nes_SIGN_ROWS, #[]⟩) (kD_SIGN_ROWS : PySem.W.KeysLit w.params es_SIGN_ROWS.toList) (pD_SIGN_ROWS : Paired (fun (p : Str × V) (e : DictEntry) => (∃ t, e.key = .str p.1 t) ∧ RelV p.2 e.val) SR es_SIGN_ROWS.toList) (oD_SIGN_ROWS : (pf_SIGN_ROWS == sysModules) = false)
    (z_len : PySem.W.nsIn K mainGlobals "len" = some none)
    (z_list : PySem.W.nsIn K mainGlobals "list" = some none)
    (z_reversed : PySem.W.nsIn K mainGlobals "reversed" = some none)
    (z_range : PySem.W.nsIn K mainGlobals "range" = some none)
    (z_zip : PySem.W.nsIn K mainGlobals "zip" = some none)
    (z_isinstance : PySem.W.nsIn K mainGlobals "isinstance" = some none)
    (z_str : PySem.W.nsIn K mainGlobals "str" = some none)
    (z_tuple : PySem.W.nsIn K mainGlobals "tuple" = some none)
    (z_sum : PySem.W.nsIn K mainGlobals "sum" = some none)
    (z_max : PySem.W.nsIn K mainGlobals "max" = some none)
    (z_min : PySem.W.nsIn K mainGlobals "min" = some none)
    (z_int : PySem.W.nsIn K mainGlobals "int" = some none)
    (z_bool : PySem.W.nsIn K mainGlobals "bool" = some none)
    (z_enumerate : PySem.W.nsIn K mainGlobals "enumerate" = some none)
    (z_all : PySem.W.nsIn K mainGlobals "all" = some none) :
    ∃ fd : FuncData, (∀ (s : Shared) (v : Value), BindsTo s fd ⟨[v], []⟩ [("_law_script", v)]) ∧ ∀ base : Heap, K.In base → base.Ns mainGlobals mg → FnOk l.prog w K mg base CX0 33 fa fd ["_law_script"] (spLaw K) := by
  have e := hfa.symm.trans (PySem.W.mg_of X G a29)
  cases e
  have B : BV.NoG mg := ⟨PySem.W.mg_none_of X G z_len, PySem.W.mg_none_of X G z_list, PySem.W.mg_none_of X G z_reversed, PySem.W.mg_none_of X G z_range, PySem.W.mg_none_of X G z_zip, PySem.W.mg_none_of X G z_isinstance, PySem.W.mg_none_of X G z_str, PySem.W.mg_none_of X G z_tuple, PySem.W.mg_none_of X G z_sum, PySem.W.mg_none_of X G z_max, PySem.W.mg_none_of X G z_min, PySem.W.mg_none_of X G z_int, PySem.W.mg_none_of X G z_bool, PySem.W.mg_none_of X G z_enumerate, PySem.W.mg_none_of X G z_all⟩
  have TD_PARTS_FROM : TopD w K pf_PARTS_FROM PF := ⟨⟨es_PARTS_FROM, nes_PARTS_FROM, lD_PARTS_FROM, kD_PARTS_FROM, pD_PARTS_FROM⟩, oD_PARTS_FROM⟩
  have m_PARTS_FROM := PySem.W.mg_of X G aD_PARTS_FROM
  have TD_SIGN_ROWS : TopD w K pf_SIGN_ROWS SR := ⟨⟨es_SIGN_ROWS, nes_SIGN_ROWS, lD_SIGN_ROWS, kD_SIGN_ROWS, pD_SIGN_ROWS⟩, oD_SIGN_ROWS⟩
  have m_SIGN_ROWS := PySem.W.mg_of X G aD_SIGN_ROWS
  have F0 := fun_mk (st := s_parts_of) l0 c0 k0
  have b0 := F0.binds (ps := ["term"]) fun _ _ _ _ _ _ us hl => match us, hl with | [_], _ => rfl
  have m0 := PySem.W.mg_of X G a0
  have F1 := fun_mk (st := s_built_up) l1 c1 k1
  have b1 := F1.binds (ps := ["root", "parts_in", "made"]) fun _ _ _ _ _ _ us hl => match us, hl with | [_, _, _], _ => rfl
  have m1 := PySem.W.mg_of X G a1
  have F2 := fun_mk (st := s_placed_parts) l2 c2 k2
  have b2 := F2.binds (ps := ["term"]) fun _ _ _ _ _ _ us hl => match us, hl with | [_], _ => rfl
  have m2 := PySem.W.mg_of X G a2
  have F3 := fun_mk (st := s_with_count) l3 c3 k3
  have b3 := F3.binds (ps := ["term", "parts"]) fun _ _ _ _ _ _ us hl => match us, hl with | [_, _], _ => rfl
  have m3 := PySem.W.mg_of X G a3
  have F4 := fun_mk (st := s_counted) l4 c4 k4
  have b4 := F4.binds (ps := ["term"]) fun _ _ _ _ _ _ us hl => match us, hl with | [_], _ => rfl
  have m4 := PySem.W.mg_of X G a4
  have F5 := fun_mk (st := s_last_row) l5 c5 k5
  have b5 := F5.binds (ps := ["term"]) fun _ _ _ _ _ _ us hl => match us, hl with | [_], _ => rfl
  have m5 := PySem.W.mg_of X G a5
  have F6 := fun_mk (st := s_one_behind_the_other) l6 c6 k6
  have b6 := F6.binds (ps := ["rows"]) fun _ _ _ _ _ _ us hl => match us, hl with | [_], _ => rfl
  have m6 := PySem.W.mg_of X G a6
  have F7 := fun_mk (st := s_rows_of_if) l7 c7 k7
  have b7 := F7.binds (ps := ["asked", "chosen", "other"]) fun _ _ _ _ _ _ us hl => match us, hl with | [_, _, _], _ => rfl
  have m7 := PySem.W.mg_of X G a7
  have F8 := fun_mk (st := s_numbered_parts) l8 c8 k8
  have b8 := F8.binds (ps := ["node"]) fun _ _ _ _ _ _ us hl => match us, hl with | [_], _ => rfl
  have m8 := PySem.W.mg_of X G a8
  have F9 := fun_mk (st := s_rows_with) l9 c9 k9
  have b9 := F9.binds (ps := ["node", "rows"]) fun _ _ _ _ _ _ us hl => match us, hl with | [_, _], _ => rfl
  have m9 := PySem.W.mg_of X G a9
  have F10 := fun_mk (st := s_rows_of_counted) l10 c10 k10
  have b10 := F10.binds (ps := ["body", "first"]) fun _ _ _ _ _ _ us hl => match us, hl with | [_, _], _ => rfl
  have m10 := PySem.W.mg_of X G a10
  have F11 := fun_mk (st := s_block_of) l11 c11 k11
  have b11 := F11.binds (ps := ["count", "size", "body", "first"]) fun _ _ _ _ _ _ us hl => match us, hl with | [_, _, _, _], _ => rfl
  have m11 := PySem.W.mg_of X G a11
  have F12 := fun_mk (st := s_every_fn) l12 c12 k12
  have b12 := F12.binds (ps := ["body"]) fun _ _ _ _ _ _ us hl => match us, hl with | [_], _ => rfl
  have m12 := PySem.W.mg_of X G a12
  have F13 := fun_mk (st := s_blocks_of_fns) l13 c13 k13
  have b13 := F13.binds (ps := ["body", "first"]) fun _ _ _ _ _ _ us hl => match us, hl with | [_, _], _ => rfl
  have m13 := PySem.W.mg_of X G a13
  have F14 := fun_mk (st := s_compiled) l14 c14 k14
  have b14 := F14.binds (ps := ["placed"]) fun _ _ _ _ _ _ us hl => match us, hl with | [_], _ => rfl
  have m14 := PySem.W.mg_of X G a14
  have F15 := fun_mk (st := s_law_cell_at) l15 c15 k15
  have b15 := F15.binds (ps := ["_law_script", "_law_k"]) fun _ _ _ _ _ _ us hl => match us, hl with | [_, _], _ => rfl
  have m15 := PySem.W.mg_of X G a15
  have F16 := fun_mk (st := s_law_next) l16 c16 k16
  have b16 := F16.binds (ps := ["_law_cells"]) fun _ _ _ _ _ _ us hl => match us, hl with | [_], _ => rfl
  have m16 := PySem.W.mg_of X G a16
  have F17 := fun_mk (st := s_law_leaf) l17 c17 k17
  have b17 := F17.binds (ps := ["_law_cell", "_law_bound"]) fun _ _ _ _ _ _ us hl => match us, hl with | [_, _], _ => rfl
  have m17 := PySem.W.mg_of X G a17
  have F18 := fun_mk (st := s_law_parts) l18 c18 k18
  have b18 := F18.binds (ps := ["_law_term_here"]) fun _ _ _ _ _ _ us hl => match us, hl with | [_], _ => rfl
  have m18 := PySem.W.mg_of X G a18
  have F19 := fun_mk (st := s_law_size) l19 c19 k19
  have b19 := F19.binds (ps := ["_law_least", "_law_term_here"]) fun _ _ _ _ _ _ us hl => match us, hl with | [_, _], _ => rfl
  have m19 := PySem.W.mg_of X G a19
  have F20 := fun_mk (st := s_law_term) l20 c20 k20
  have b20 := F20.binds (ps := ["_law_cells", "_law_deep", "_law_bound", "_law_counts"]) fun _ _ _ _ _ _ us hl => match us, hl with | [_, _, _, _], _ => rfl
  have m20 := PySem.W.mg_of X G a20
  have F21 := fun_mk (st := s_law_fn) l21 c21 k21
  have b21 := F21.binds (ps := ["_law_cells", "_law_deep", "_law_bound", "_law_cell", "_law_counts"]) fun _ _ _ _ _ _ us hl => match us, hl with | [_, _, _, _, _], _ => rfl
  have m21 := PySem.W.mg_of X G a21
  have F22 := fun_mk (st := s_law_call) l22 c22 k22
  have b22 := F22.binds (ps := ["_law_cells", "_law_deep", "_law_bound", "_law_cell", "_law_counts"]) fun _ _ _ _ _ _ us hl => match us, hl with | [_, _, _, _, _], _ => rfl
  have m22 := PySem.W.mg_of X G a22
  have F23 := fun_mk (st := s_law_program) l23 c23 k23
  have b23 := F23.binds (ps := ["_law_script"]) fun _ _ _ _ _ _ us hl => match us, hl with | [_], _ => rfl
  have m23 := PySem.W.mg_of X G a23
  have F24 := fun_mk (st := s_law_wants) l24 c24 k24
  have b24 := F24.binds (ps := ["_law_row"]) fun _ _ _ _ _ _ us hl => match us, hl with | [_], _ => rfl
  have m24 := PySem.W.mg_of X G a24
  have F25 := fun_mk (st := s_law_leaves) l25 c25 k25
  have b25 := F25.binds (ps := ["_law_row"]) fun _ _ _ _ _ _ us hl => match us, hl with | [_], _ => rfl
  have m25 := PySem.W.mg_of X G a25
  have F26 := fun_mk (st := s_law_meet) l26 c26 k26
  have b26 := F26.binds (ps := ["_law_stands", "_law_at", "_law_height", "_law_kept"]) fun _ _ _ _ _ _ us hl => match us, hl with | [_, _, _, _], _ => rfl
  have m26 := PySem.W.mg_of X G a26
  have F27 := fun_mk (st := s_law_goes) l27 c27 k27
  have b27 := F27.binds (ps := ["_law_stands", "_law_rows", "_law_at", "_law_height", "_law_kept"]) fun _ _ _ _ _ _ us hl => match us, hl with | [_, _, _, _, _], _ => rfl
  have m27 := PySem.W.mg_of X G a27
  have F28 := fun_mk (st := s_law_good) l28 c28 k28
  have b28 := F28.binds (ps := ["_law_block"]) fun _ _ _ _ _ _ us hl => match us, hl with | [_], _ => rfl
  have m28 := PySem.W.mg_of X G a28
  have F29 := fun_mk (st := s_law) l29 c29 k29
  have b29 := F29.binds (ps := ["_law_script"]) fun _ _ _ _ _ _ us hl => match us, hl with | [_], _ => rfl
  have m29 := PySem.W.mg_of X G a29
  refine ⟨PySem.W.fnOf "law" "law" (defArgs s_law) (defBody s_law) (defScope s_law) .none kV29 dc29 pm29 an29 cd29 ct29, fun s v => .of_eq rfl, fun base _ _ => ?_⟩
  have G0 := ok_parts_of (P := l.prog) (w := w) (mg := mg) (base := base) F0 B TD_PARTS_FROM m_PARTS_FROM
  have G1 := BV.ok_built_up (P := l.prog) (w := w) (mg := mg) (base := base) F1 B
  have G2 := ok_placed_parts (P := l.prog) (w := w) (mg := mg) (base := base) F2 G0 b0 k0 m0
  have G3 := ok_with_count (P := l.prog) (w := w) (mg := mg) (base := base) F3 B
  have G4 := ok_counted (P := l.prog) (w := w) (mg := mg) (base := base) F4 G1 b1 k1 m1 G2 b2 k2 m2 G3 b3 k3 m3
  have G5 := ok_last_row (P := l.prog) (w := w) (mg := mg) (base := base) F5 B TD_SIGN_ROWS m_SIGN_ROWS
  have G6 := ok_one_behind_the_other (P := l.prog) (w := w) (mg := mg) (base := base) F6 
  have G7 := ok_rows_of_if (P := l.prog) (w := w) (mg := mg) (base := base) F7 B
  have G8 := ok_numbered_parts (P := l.prog) (w := w) (mg := mg) (base := base) F8 
  have G9 := ok_rows_with (P := l.prog) (w := w) (mg := mg) (base := base) F9 B G7 b7 k7 m7 G6 b6 k6 m6 G5 b5 k5 m5
  have G10 := ok_rows_of_counted (P := l.prog) (w := w) (mg := mg) (base := base) F10 B G1 b1 k1 m1 G8 b8 k8 m8 G9 b9 k9 m9
  have G11 := ok_block_of (P := l.prog) (w := w) (mg := mg) (base := base) F11 G10 b10 k10 m10
  have G12 := ok_every_fn (P := l.prog) (w := w) (mg := mg) (base := base) F12 B
  have G13 := ok_blocks_of_fns (P := l.prog) (w := w) (mg := mg) (base := base) F13 B G12 b12 k12 m12 G11 b11 k11 m11
  have G14 := ok_compiled (P := l.prog) (w := w) (mg := mg) (base := base) F14 B G4 b4 k4 m4 G11 b11 k11 m11 G13 b13 k13 m13
  have G15 := ok_law_cell_at (P := l.prog) (w := w) (mg := mg) (base := base) F15 B
  have G16 := ok_law_next (P := l.prog) (w := w) (mg := mg) (base := base) F16 
  have G17 := ok_law_leaf (P := l.prog) (w := w) (mg := mg) (base := base) F17 
  have G18 := ok_law_parts (P := l.prog) (w := w) (mg := mg) (base := base) F18 B
  have G19 := ok_law_size (P := l.prog) (w := w) (mg := mg) (base := base) F19 B b19 k19 m19 G18 b18 k18 m18 14
  have G20 := ok_law_term (P := l.prog) (w := w) (mg := mg) (base := base) F20 B b20 k20 m20 G16 b16 k16 m16 G17 b17 k17 m17 (fun n G => ok_law_call (P := l.prog) (w := w) (mg := mg) (base := base) F22 B G b20 k20 m20) b22 k22 m22 (fun n G => ok_law_fn (P := l.prog) (w := w) (mg := mg) (base := base) F21 B G19 b19 k19 m19 G b20 k20 m20) b21 k21 m21 8
  have G23 := ok_law_program (P := l.prog) (w := w) (mg := mg) (base := base) F23 B G15 b15 k15 m15 G20 b20 k20 m20 G19 b19 k19 m19
  have G24 := ok_law_wants (P := l.prog) (w := w) (mg := mg) (base := base) F24 B
  have G25 := ok_law_leaves (P := l.prog) (w := w) (mg := mg) (base := base) F25 B
  have G26 := ok_law_meet (P := l.prog) (w := w) (mg := mg) (base := base) F26 B
  have G27 := ok_law_goes (P := l.prog) (w := w) (mg := mg) (base := base) F27 B G26 b26 k26 m26
  have G28 := ok_law_good (P := l.prog) (w := w) (mg := mg) (base := base) F28 B G24 b24 k24 m24 G25 b25 k25 m25 G27 b27 k27 m27
  exact ok_law F29 B G23 b23 k23 m23 G14 b14 k14 m14 G28 b28 k28 m28
theorem walk {l : PySem.W.OpenLaw} {q : Program} {loose : List Str} {XP : (Str → Option Value) → Heap → Prop} {YP : World → Heap → Prop} {d : DefRec} {K : Params → PySem.W.Frag} (hn : l.most = some 63) (hdf : d.params.defaults = [])
    (hY : ∀ (w : World) (h : Heap), YP w h → (K w.params).In h)
    (F : ∀ (w : World) (mg : Str → Option Value) (fa : Addr) (h : Heap), (K w.params).In h → h.Ns mainGlobals mg → mg d.name = some (.ref fa) →
      ∃ fd : FuncData, (∀ (s : Shared) (u : Value), BindsTo s fd ⟨[u], []⟩ [("_law_script", u)]) ∧ ∀ base : Heap, (K w.params).In base → base.Ns mainGlobals mg → FnOk l.prog w (K w.params) mg base CX0 33 fa fd ["_law_script"] (spLaw (K w.params))) :
    PySem.W.WalkO q loose XP YP l.row.toRowW d [] (fun f vs => PySem.call f vs) :=
  L2.walk_of (n := 63) (k := 33) (x := "_law_script") (CX := fun _ => CX0) (sp := fun w => spLaw (K w.params)) hn (by decide) hdf ⟨rfl, by decide, by decide⟩ hY F (fun _ _ a ns hl _ hS => ⟨a, ns, rfl, hS, hl, fun _ => rfl⟩) fun _ _ _ _ _ z => z
end CP
open PySem PySem.W PyProof.Rows
set_option maxRecDepth 100000 in
set_option maxHeartbeats 0 in
theorem PySem.Challenge.cw_speakmill_k52_whole_heights_holds : PySem.Challenge.rw_speakmill_k52_whole_heights.Holds := by
  w_on; o_law; k_head; (case hw => w_witness2)
  k_fill
  refine CP.walk (l := PySem.Challenge.rw_speakmill_k52_whole_heights) rfl rfl (fun w h Y => PySem.W.kIn_of Y) ?F
  case F =>
    intro w mg fa h KX G hmg
    refine' CP.all_mk KX G hmg ?a0 ?l0 ?c0 ?k0 ?a1 ?l1 ?c1 ?k1 ?a2 ?l2 ?c2 ?k2 ?a3 ?l3 ?c3 ?k3 ?a4 ?l4 ?c4 ?k4 ?a5 ?l5 ?c5 ?k5 ?a6 ?l6 ?c6 ?k6 ?a7 ?l7 ?c7 ?k7 ?a8 ?l8 ?c8 ?k8 ?a9 ?l9 ?c9 ?k9 ?a10 ?l10 ?c10 ?k10 ?a11 ?l11 ?c11 ?k11 ?a12 ?l12 ?c12 ?k12 ?a13 ?l13 ?c13 ?k13 ?a14 ?l14 ?c14 ?k14 ?a15 ?l15 ?c15 ?k15 ?a16 ?l16 ?c16 ?k16 ?a17 ?l17 ?c17 ?k17 ?a18 ?l18 ?c18 ?k18 ?a19 ?l19 ?c19 ?k19 ?a20 ?l20 ?c20 ?k20 ?a21 ?l21 ?c21 ?k21 ?a22 ?l22 ?c22 ?k22 ?a23 ?l23 ?c23 ?k23 ?a24 ?l24 ?c24 ?k24 ?a25 ?l25 ?c25 ?k25 ?a26 ?l26 ?c26 ?k26 ?a27 ?l27 ?c27 ?k27 ?a28 ?l28 ?c28 ?k28 ?a29 ?l29 ?c29 ?k29 ?aD_PARTS_FROM ?lD_PARTS_FROM ?kD_PARTS_FROM ?pD_PARTS_FROM ?oD_PARTS_FROM ?aD_SIGN_ROWS ?lD_SIGN_ROWS ?kD_SIGN_ROWS ?pD_SIGN_ROWS ?oD_SIGN_ROWS ?z_len ?z_list ?z_reversed ?z_range ?z_zip ?z_isinstance ?z_str ?z_tuple ?z_sum ?z_max ?z_min ?z_int ?z_bool ?z_enumerate ?z_all
    (case a0 => k_is)
    (case l0 => k_is)
    (case c0 => k_is)
    (case k0 => k_is)
    (case a1 => k_is)
    (case l1 => k_is)
    (case c1 => k_is)
    (case k1 => k_is)
    (case a2 => k_is)
    (case l2 => k_is)
    (case c2 => k_is)
    (case k2 => k_is)
    (case a3 => k_is)
    (case l3 => k_is)
    (case c3 => k_is)
    (case k3 => k_is)
    (case a4 => k_is)
    (case l4 => k_is)
    (case c4 => k_is)
    (case k4 => k_is)
    (case a5 => k_is)
    (case l5 => k_is)
    (case c5 => k_is)
    (case k5 => k_is)
    (case a6 => k_is)
    (case l6 => k_is)
    (case c6 => k_is)
    (case k6 => k_is)
    (case a7 => k_is)
    (case l7 => k_is)
    (case c7 => k_is)
    (case k7 => k_is)
    (case a8 => k_is)
    (case l8 => k_is)
    (case c8 => k_is)
    (case k8 => k_is)
    (case a9 => k_is)
    (case l9 => k_is)
    (case c9 => k_is)
    (case k9 => k_is)
    (case a10 => k_is)
    (case l10 => k_is)
    (case c10 => k_is)
    (case k10 => k_is)
    (case a11 => k_is)
    (case l11 => k_is)
    (case c11 => k_is)
    (case k11 => k_is)
    (case a12 => k_is)
    (case l12 => k_is)
    (case c12 => k_is)
    (case k12 => k_is)
    (case a13 => k_is)
    (case l13 => k_is)
    (case c13 => k_is)
    (case k13 => k_is)
    (case a14 => k_is)
    (case l14 => k_is)
    (case c14 => k_is)
    (case k14 => k_is)
    (case a15 => k_is)
    (case l15 => k_is)
    (case c15 => k_is)
    (case k15 => k_is)
    (case a16 => k_is)
    (case l16 => k_is)
    (case c16 => k_is)
    (case k16 => k_is)
    (case a17 => k_is)
    (case l17 => k_is)
    (case c17 => k_is)
    (case k17 => k_is)
    (case a18 => k_is)
    (case l18 => k_is)
    (case c18 => k_is)
    (case k18 => k_is)
    (case a19 => k_is)
    (case l19 => k_is)
    (case c19 => k_is)
    (case k19 => k_is)
    (case a20 => k_is)
    (case l20 => k_is)
    (case c20 => k_is)
    (case k20 => k_is)
    (case a21 => k_is)
    (case l21 => k_is)
    (case c21 => k_is)
    (case k21 => k_is)
    (case a22 => k_is)
    (case l22 => k_is)
    (case c22 => k_is)
    (case k22 => k_is)
    (case a23 => k_is)
    (case l23 => k_is)
    (case c23 => k_is)
    (case k23 => k_is)
    (case a24 => k_is)
    (case l24 => k_is)
    (case c24 => k_is)
    (case k24 => k_is)
    (case a25 => k_is)
    (case l25 => k_is)
    (case c25 => k_is)
    (case k25 => k_is)
    (case a26 => k_is)
    (case l26 => k_is)
    (case c26 => k_is)
    (case k26 => k_is)
    (case a27 => k_is)
    (case l27 => k_is)
    (case c27 => k_is)
    (case k27 => k_is)
    (case a28 => k_is)
    (case l28 => k_is)
    (case c28 => k_is)
    (case k28 => k_is)
    (case a29 => k_is)
    (case l29 => k_is)
    (case c29 => k_is)
    (case k29 => k_is)
    (case aD_PARTS_FROM => k_is)
    (case lD_PARTS_FROM => k_is)
    (case kD_PARTS_FROM => k_keys)
    (case pD_PARTS_FROM => repeat (first | exact .nil | refine .cons ⟨⟨_, rfl⟩, ⟨_, rfl⟩⟩ ?_))
    (case oD_PARTS_FROM => decide)
    (case aD_SIGN_ROWS => k_is)
    (case lD_SIGN_ROWS => k_is)
    (case kD_SIGN_ROWS => k_keys)
    (case pD_SIGN_ROWS => repeat (first | exact .nil | refine .cons ⟨⟨_, rfl⟩, ⟨_, rfl⟩⟩ ?_))
    (case oD_SIGN_ROWS => decide)
    (case z_len => k_is)
    (case z_list => k_is)
    (case z_reversed => k_is)
    (case z_range => k_is)
    (case z_zip => k_is)
    (case z_isinstance => k_is)
    (case z_str => k_is)
    (case z_tuple => k_is)
    (case z_sum => k_is)
    (case z_max => k_is)
    (case z_min => k_is)
    (case z_int => k_is)
    (case z_bool => k_is)
    (case z_enumerate => k_is)
    (case z_all => k_is)
