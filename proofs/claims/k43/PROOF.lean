import PyProof.Rows.All
import Wide.All
import OpenK.AllK
import Wide.FinOn
import Lean
import PyProof.EqAt
import PyProof.EqKinds
import PyProof.TupleCall
import PySem.Challenge.RW_speakmill_k43_calls_dry_and_deep
set_option Elab.async false
set_option linter.all false
set_option maxRecDepth 100000
/-! THE HAND LAYER, for ints, bools, texts, own classes, LISTS and tuples (index, slices, in, append, pop ..), calls, loops. Paste it whole ahead of your own text; what your proof does not reach may be deleted. -/
namespace L2
open PySem PySem.Spec PyProof.Rows

/-- a key: an int or a str -/
abbrev Key := Sum Int Str
def keyIs : Key → Value → Bool
  | .inl k, v => Value.isInt k v
  | .inr x, v => Value.isStrOf x v
def keyH (w : World) : Key → Int
  | .inl k => hashInt k
  | .inr x => hashStr w x
theorem keyIs_shape : ∀ {k : Key} {v : Value}, keyIs k v = true → (∃ i t, k = Sum.inl i ∧ v = Value.int i t) ∨ (∃ x t, k = Sum.inr x ∧ v = Value.str x t)
  | .inl i, v, h => by
    obtain ⟨t, e⟩ := Value.isInt_shape (k := i) (v := v) h
    exact .inl ⟨i, t, rfl, e⟩
  | .inr x, v, h => by
    obtain ⟨t, e⟩ := Value.isStrOf_shape (x := x) (v := v) h
    exact .inr ⟨x, t, rfl, e⟩
theorem keyIs_int (i : Int) (t : Tok) : keyIs (.inl i) (.int i t) = true := by simp [keyIs, Value.isInt]
theorem keyIs_str (x : Str) (t : Tok) : keyIs (.inr x) (.str x t) = true := by simp [keyIs, Value.isStrOf]
theorem key_ll (a b : Int) : decide ((Sum.inl a : Key) = Sum.inl b) = (a == b) := by
  by_cases e : a = b
  · subst e; simp
  · have h : ¬ (Sum.inl a : Key) = Sum.inl b := fun q => e (Sum.inl.inj q)
    rw [decide_eq_false h]
    exact (beq_eq_false_iff_ne.mpr e).symm
theorem key_rr (a b : Str) : decide ((Sum.inr a : Key) = Sum.inr b) = decide (a = b) := by
  by_cases e : a = b
  · subst e; simp
  · have h : ¬ (Sum.inr a : Key) = Sum.inr b := fun q => e (Sum.inr.inj q)
    rw [decide_eq_false h, decide_eq_false e]
theorem key_lr (a : Int) (b : Str) : decide ((Sum.inl a : Key) = Sum.inr b) = false := decide_eq_false (fun q => nomatch q)
theorem key_rl (a : Str) (b : Int) : decide ((Sum.inr a : Key) = Sum.inl b) = false := decide_eq_false (fun q => nomatch q)

def mixKind (prog : Program) (w : World) : PySem.KeyKind prog w Key where
  is := keyIs
  hash := keyH w
  inj := fun v a b ha hb => by
    rcases keyIs_shape ha with ⟨i, t, rfl, rfl⟩ | ⟨x, t, rfl, rfl⟩
    · rcases keyIs_shape hb with ⟨j, u, rfl, e⟩ | ⟨y, u, rfl, e⟩
      · injection e with e1 _; rw [e1]
      · exact nomatch e
    · rcases keyIs_shape hb with ⟨j, u, rfl, e⟩ | ⟨y, u, rfl, e⟩
      · exact nomatch e
      · injection e with e1 _; rw [e1]
  byValue := fun k v h => by
    rcases keyIs_shape h with ⟨i, t, rfl, rfl⟩ | ⟨x, t, rfl, rfl⟩ <;> rfl
  pyHash := fun hv h => by
    rcases keyIs_shape hv with ⟨i, t, rfl, rfl⟩ | ⟨x, t, rfl, rfl⟩
    · exact wpAny_pyHash_int h
    · exact wpAny_pyHash_str h
  eqBool := fun hu hv h => by
    rcases keyIs_shape hu with ⟨i, t, rfl, rfl⟩ | ⟨x, t, rfl, rfl⟩
    · rcases keyIs_shape hv with ⟨j, u, rfl, rfl⟩ | ⟨y, u, rfl, rfl⟩
      · rw [key_ll] at h; exact wpAny_eqBool_int h
      · rw [key_lr] at h; exact SeqAt.EqAt.int_str i t y u _ _ _ _ h
    · rcases keyIs_shape hv with ⟨j, u, rfl, rfl⟩ | ⟨y, u, rfl, rfl⟩
      · rw [key_rl] at h; exact SeqAt.EqAt.str_int x t j u _ _ _ _ h
      · rw [key_rr] at h; exact wpAny_eqBool_str h
  «strs» := fun k x t v h => by
    rcases keyIs_shape h with ⟨i, u, rfl, e⟩ | ⟨y, u, rfl, e⟩
    · exact nomatch e
    · injection e with e1 _
      subst e1
      cases v <;> rfl

theorem mixKind_is (prog : Program) (w : World) (k : Key) (v : Value) : (mixKind prog w).is k v = keyIs k v := rfl
theorem mixKind_int (prog : Program) (w : World) (i : Int) (t : Tok) : (mixKind prog w).is (.inl i) (.int i t) = true := keyIs_int i t
theorem mixKind_str (prog : Program) (w : World) (x : Str) (t : Tok) : (mixKind prog w).is (.inr x) (.str x t) = true := keyIs_str x t
end L2

namespace L2
open PySem PySem.Spec PyProof.Rows

/-- a value, without the heap -/
inductive V where
  | non | bl (b : Bool) | int (i : Int) | str (x : Str) | byt (b : Array UInt8) | flt (b : UInt64) | ref (a : Addr) | ty (n : String)
  deriving DecidableEq

def RelV : V → Value → Prop
  | .non, u => u = Value.none
  | .bl b, u => u = Value.bool b
  | .int i, u => ∃ t, u = Value.int i t
  | .str x, u => ∃ t, u = Value.str x t
  | .byt b, u => ∃ t, u = Value.bytes b t
  | .flt b, u => ∃ t, u = Value.float b t
  | .ref a, u => u = Value.ref a
  | .ty n, u => u = Value.type n

abbrev Vals : List V → List Value → Prop := Paired RelV
theorem Vals.length {xs : List V} {us : List Value} (r : Vals xs us) : xs.length = us.length := Paired.length r
theorem Vals.get : ∀ {xs : List V} {us : List Value} {i : Nat} {x : V}, Vals xs us → xs[i]? = some x → ∃ u, us[i]? = some u ∧ RelV x u
  | _, _, _, _, .nil, e => by simp at e
  | _, _, 0, _, .cons r _, e => by simp at e; subst e; exact ⟨_, rfl, r⟩
  | _, _, i + 1, x, .cons _ t, e => by
    obtain ⟨u, h1, h2⟩ := Vals.get (i := i) (x := x) t (by simpa using e)
    exact ⟨u, by simpa using h1, h2⟩
theorem Vals.set {x : V} {u : Value} (r : RelV x u) : ∀ {xs : List V} {us : List Value} (i : Nat), Vals xs us → Vals (xs.set i x) (us.set i u)
  | _, _, _, .nil => .nil
  | _, _, 0, .cons _ t => .cons r t
  | _, _, i + 1, .cons q t => .cons q (Vals.set r i t)
theorem Vals.append : ∀ {xs ys : List V} {us ws : List Value}, Vals xs us → Vals ys ws → Vals (xs ++ ys) (us ++ ws)
  | _, _, _, _, .nil, s => s
  | _, _, _, _, .cons r t, s => .cons r (Vals.append t s)
theorem Vals.take : ∀ {xs : List V} {us : List Value} (n : Nat), Vals xs us → Vals (xs.take n) (us.take n)
  | _, _, 0, _ => .nil
  | _, _, _ + 1, .nil => .nil
  | _, _, n + 1, .cons r t => .cons r (Vals.take n t)
theorem Vals.drop : ∀ {xs : List V} {us : List Value} (n : Nat), Vals xs us → Vals (xs.drop n) (us.drop n)
  | _, _, 0, r => r
  | _, _, _ + 1, .nil => .nil
  | _, _, n + 1, .cons _ t => Vals.drop n t
theorem Vals.none_of : ∀ {xs : List V} {us : List Value} {i : Nat}, Vals xs us → xs[i]? = none → us[i]? = none := fun {xs us i} r e => by
  have h1 := r.length
  have h2 : xs.length ≤ i := List.getElem?_eq_none_iff.mp e
  exact List.getElem?_eq_none_iff.mpr (by omega)

def RelO : Option V → Option Value → Prop
  | some v, some u => RelV v u
  | none, none => True
  | _, _ => False
def KV {κ : Type} : List (κ × V) → List (κ × Value) → Prop := Paired fun (p : κ × V) (q : κ × Value) => p.1 = q.1 ∧ RelV p.2 q.2

/-- a key of a dict (00_mix): an int or a text -/
def kV : Key → V
  | .inl i => .int i
  | .inr x => .str x

/-- what stands at a tracked address -/
inductive HO where
  /-- a list -/
  | lst (xs : List V)
  /-- a tuple (never changes) -/
  | tup (xs : List V)
  /-- a dict whose keys are ints and texts; one whose keys are tuples of ints and texts (the empty one is both) -/
  | dK (kvs : List (Key × V)) | dT (kvs : List (List Key × V))
  /-- a set of ints: its members, its size -/
  | set (S : Int → Bool) (n : Nat)
  /-- an instance of the class at C, its dict at dx, its attributes -/
  | ins (C dx : Addr) (fs : List (Str × V))
  /-- the dict of the instance at x -/
  | own (x : Addr)
  /-- the dict of an exception -/
  | xd (fs : List (Str × V))
  /-- a bound method, f of x -/
  | met (f x : Addr)
  /-- a range object lo, lo + 1, .. below hi -/
  | rng (lo hi : Int)
  /-- a thing that is known to the object (the script; a dict while a loop walks it): read, never written while it is so -/
  | frz (o : Obj) (u : HO)
  /-- a code object's table -/
  | tbl (ps : Array Value)
  /-- any other thing, by what is true of its one object (a def of one's own: SetO a S n := HO.ext fun h => ..) -/
  | ext (φ : Heap → Prop)

abbrev Hp := Addr → Option HO
def upd (H : Hp) (a : Addr) (o : HO) : Hp := fun b => if b = a then some o else H b
theorem upd_same {H : Hp} {a : Addr} {o : HO} : upd H a o a = some o := by unfold upd; rw [if_pos rfl]
theorem upd_ne {H : Hp} {a b : Addr} {o : HO} (h : b ≠ a) : upd H a o b = H b := by unfold upd; rw [if_neg h]
theorem upd_upd {H : Hp} {a : Addr} {o u : HO} : upd (upd H a o) a u = upd H a u := by
  funext b; unfold upd; split <;> rfl
/-- two objects of different content stand apart -/
theorem ne_of {H : Hp} {a b : Addr} {o u : HO} (h : H a = some o) (h' : H b = some u) (d : o ≠ u) : a ≠ b := by
  intro e; subst e; rw [h] at h'; exact d (Option.some.inj h')
theorem ne_of_none {H : Hp} {a b : Addr} {o : HO} (h : H a = some o) (h' : H b = none) : a ≠ b := by
  intro e; subst e; rw [h] at h'; cases h'

section
variable (P : Program) (w : World)
def ObjOk (H : Hp) (h : Heap) (a : Addr) : HO → Prop
  | .lst xs => xs.length ≤ sizeLine ∧ ∃ (its : List Value) (n : Nat), Vals xs its ∧ h.get? a = some { cls := .type "list", data := .seq its.toArray n }
  | .tup xs => xs.length ≤ sizeLine ∧ ∃ its : List Value, Vals xs its ∧ IsTup h a its.toArray
  | .dK kvs => kvs.length ≤ sizeLine ∧ (a == sysModules) = false ∧ ∃ vs, KV kvs vs ∧ h.DictOf (mixKind P w) a vs
  | .dT kvs => kvs.length ≤ sizeLine ∧ (a == sysModules) = false ∧ ∃ xs : List (List Key × Addr × Value),
      Paired (fun (p : List Key × V) (q : List Key × Addr × Value) => p.1 = q.1 ∧ H q.2.1 = some (.tup (p.1.map kV)) ∧ RelV p.2 q.2.2) kvs xs ∧
      ∃ o es ep, h.get? a = some o ∧ o.ExactDict ∧ o.data = .dict es ep ∧ es.toList = xs.map (entryOfKey (tupleKind (mixKind P w))) ∧ (xs.map (·.1)).Nodup
  | .set S n => h.SetOf (intKind P w) a S n
  | .ins C dx fs => H dx = some (.own a) ∧ fs.length ≤ 1000 ∧ dx ≠ a ∧ h.get? a = some (PySem.W.instObj C dx) ∧
      ∃ mA, h.Ns1 dx mA ∧ (∀ f, RelO (fs.lookup f) (mA f)) ∧ PySem.Within mA (fs.map (·.1))
  | .own _ => ∃ o, h.get? a = some o
  | .xd fs => ∃ mA, h.Ns1 a mA ∧ ∀ f, RelO (fs.lookup f) (mA f)
  | .rng lo hi => ∃ t u v, h.get? a = some { cls := .type "range", data := .fields #[.int lo t, .int hi u, .int 1 v] }
  | .frz o u => h.get? a = some o ∧ ObjOk H h a u
  | .tbl ps => h.get? a = some { cls := .none, data := .fields ps }
  | .met f x => h.get? a = some (PySem.W.methodObj (.ref f) (.ref x))
  | .ext φ => φ h ∧ (∃ o, h.get? a = some o) ∧ ∀ h1 h2 : Heap, φ h1 → (∀ o, h1.get? a = some o → h2.get? a = some o) → φ h2
/-- the abstract heap is held -/
def HOk (H : Hp) (h : Heap) : Prop := ∀ a o, H a = some o → ObjOk P w H h a o
end

section
variable {P : Program} {w : World} {H H' : Hp} {h h' : Heap} {a : Addr} {o : HO}
theorem ObjOk.lt (x : ObjOk P w H h a o) : a < h.objs.size := by
  cases o with
  | lst xs => obtain ⟨_, _, _, _, e⟩ := x; exact Heap.lt_size e
  | tup xs => obtain ⟨_, _, _, p⟩ := x; exact p.lt
  | dK kvs => obtain ⟨_, _, _, _, o, _, _, e, _⟩ := x; exact Heap.lt_size e
  | dT kvs => obtain ⟨_, _, _, _, o, _, _, e, _⟩ := x; exact Heap.lt_size e
  | set S n => obtain ⟨o, _, _, _, e, _⟩ := x; exact Heap.lt_size e
  | ins C dx fs => obtain ⟨_, _, _, e, _⟩ := x; exact Heap.lt_size e
  | own y => obtain ⟨_, e⟩ := x; exact Heap.lt_size e
  | xd fs => obtain ⟨_, ⟨_, _, _, e, _⟩, _⟩ := x; exact Heap.lt_size e
  | rng lo hi => obtain ⟨_, _, _, e⟩ := x; exact Heap.lt_size e
  | frz ob u => obtain ⟨e, _⟩ := x; exact Heap.lt_size e
  | tbl ps => exact Heap.lt_size (show h.get? a = some _ from x)
  | met f y => exact Heap.lt_size (show h.get? a = some _ from x)
  | ext φ => obtain ⟨_, ⟨_, e⟩, _⟩ := x; exact Heap.lt_size e
theorem Paired.mapP {α β : Type} {F G : α → β → Prop} : ∀ {l₁ : List α} {l₂ : List β}, Paired F l₁ l₂ → (∀ a b, F a b → G a b) → Paired G l₁ l₂
  | _, _, .nil, _ => .nil
  | _, _, .cons r t, f => .cons (f _ _ r) (Paired.mapP t f)
theorem Paired.imp' {α β : Type} {F G : α → β → Prop} (f : ∀ a b, F a b → G a b) {l₁ : List α} {l₂ : List β} (r : Paired F l₁ l₂) : Paired G l₁ l₂ := Paired.mapP r f
/-- what an object's description leans on: its own object, its own dict, the tuples -/
theorem ObjOk.stay (x : ObjOk P w H h a o) (k : ∀ b u, (b = a ∨ H b = some (.own a)) → h.get? b = some u → h'.get? b = some u)
    (ho : ∀ b, H b = some (.own a) → H' b = some (.own a)) (ht : ∀ b xs, H b = some (.tup xs) → H' b = some (.tup xs)) : ObjOk P w H' h' a o := by
  induction o with
  | lst xs => obtain ⟨z, its, n, r, e⟩ := x; exact ⟨z, its, n, r, k _ _ (.inl rfl) e⟩
  | tup xs => obtain ⟨z, its, r, ob, e, c⟩ := x; exact ⟨z, its, r, ob, k _ _ (.inl rfl) e, c⟩
  | dK kvs => obtain ⟨z, y, vs, r, ob, es, ep, e, c⟩ := x; exact ⟨z, y, vs, r, ob, es, ep, k _ _ (.inl rfl) e, c⟩
  | dT kvs =>
    obtain ⟨z, y, xs, r, ob, es, ep, e, c⟩ := x
    exact ⟨z, y, xs, Paired.mapP r fun p q z => ⟨z.1, ht _ _ z.2.1, z.2.2⟩, ob, es, ep, k _ _ (.inl rfl) e, c⟩
  | set S n => obtain ⟨ob, es, ep, t, e, c⟩ := x; exact ⟨ob, es, ep, t, k _ _ (.inl rfl) e, c⟩
  | ins C dx fs =>
    obtain ⟨d, z, ne, e, mA, ⟨od, es, ep, e2, c⟩, r⟩ := x
    exact ⟨ho _ d, z, ne, k _ _ (.inl rfl) e, mA, ⟨od, es, ep, k _ _ (.inr d) e2, c⟩, r⟩
  | own y => obtain ⟨ob, e⟩ := x; exact ⟨ob, k _ _ (.inl rfl) e⟩
  | xd fs => obtain ⟨mA, ⟨od, es, ep, e, c⟩, r⟩ := x; exact ⟨mA, ⟨od, es, ep, k _ _ (.inl rfl) e, c⟩, r⟩
  | rng lo hi => obtain ⟨t, u, v, e⟩ := x; exact ⟨t, u, v, k _ _ (.inl rfl) e⟩
  | frz ob u ih => obtain ⟨e, q⟩ := x; exact ⟨k _ _ (.inl rfl) e, ih q⟩
  | tbl ps =>
    have e : h.get? a = some { cls := .none, data := .fields ps } := x
    show h'.get? a = some { cls := .none, data := .fields ps }
    exact k a _ (.inl rfl) e
  | met f y =>
    have e : h.get? a = some (PySem.W.methodObj (.ref f) (.ref y)) := x
    show h'.get? a = some (PySem.W.methodObj (.ref f) (.ref y))
    exact k a _ (.inl rfl) e
  | ext φ => obtain ⟨p, ⟨o, e⟩, st⟩ := x; exact ⟨st _ _ p fun o q => k _ _ (.inl rfl) q, ⟨o, k _ _ (.inl rfl) e⟩, st⟩
theorem HOk.lt (x : HOk P w H h) (e : H a = some o) : a < h.objs.size := (x a o e).lt
theorem HOk.fresh (x : HOk P w H h) (e : h.objs.size ≤ a) : H a = none := by
  cases q : H a with
  | none => rfl
  | some u => exact absurd (Nat.lt_of_lt_of_le (x.lt q) e) (Nat.lt_irrefl _)
/-- every object of the heap is kept -/
theorem HOk.kept (x : HOk P w H h) (k : ∀ b u, h.get? b = some u → h'.get? b = some u) : HOk P w H h' := fun a o e =>
  (x a o e).stay (fun b u _ q => k b u q) (fun _ q => q) fun _ _ q => q
/-- a new object is laid and tracked -/
theorem HOk.laid (x : HOk P w H h) (k : ∀ b u, h.get? b = some u → h'.get? b = some u) (hp : h.objs.size ≤ a) (new : ObjOk P w (upd H a o) h' a o) : HOk P w (upd H a o) h' := fun b u e => by
  have hn := x.fresh hp
  by_cases hb : b = a
  · subst hb; rw [upd_same] at e; cases e; exact new
  · rw [upd_ne hb] at e
    exact (x b u e).stay (fun c v _ q => k c v q) (fun c q => by rw [upd_ne (ne_of_none q hn)]; exact q) fun c xs q => by rw [upd_ne (ne_of_none q hn)]; exact q
end

/-- what may be read as u: it is u, or a known u -/
def Rd (H : Hp) (a : Addr) (u : HO) : Prop := H a = some u ∨ ∃ o, H a = some (.frz o u)
theorem Rd.of {H : Hp} {a : Addr} {u : HO} (h : H a = some u) : Rd H a u := .inl h
theorem Rd.ok {P : Program} {w : World} {H : Hp} {h : Heap} {a : Addr} {u : HO} (r : Rd H a u) (x : HOk P w H h) : ObjOk P w H h a u := by
  rcases r with r | ⟨o, r⟩
  · exact x a u r
  · obtain ⟨_, q⟩ := x a _ r
    exact q
/-- what may be written -/
def Mut : Option HO → Prop
  | some (.lst _) => True
  | some (.dK _) => True
  | some (.dT _) => True
  | some (.set _ _) => True
  | some (.ins _ _ _) => True
  | some (.ext _) => True
  | _ => False
section
variable {P : Program} {w : World} {H : Hp} {h h' : Heap} {x e : Addr} {o' : HO}
/-- the object at e is changed: x itself, or the dict of the instance x -/
theorem HOk.write (ok : HOk P w H h) (mu : Mut (H x)) (he : e = x ∨ H e = some (.own x)) (k : ∀ b u, b ≠ e → h.get? b = some u → h'.get? b = some u) (heo : ∃ u, h'.get? e = some u)
    (new : ObjOk P w (upd H x o') h' x o') : HOk P w (upd H x o') h' := fun b u q => by
  have nown : ∀ c y, H c = some (.own y) → c ≠ x := fun c y r z => by subst z; rw [r] at mu; exact mu
  have ntup : ∀ c xs, H c = some (.tup xs) → c ≠ x := fun c xs r z => by subst z; rw [r] at mu; exact mu
  by_cases hb : b = x
  · subst hb; rw [upd_same] at q; cases q; exact new
  · rw [upd_ne hb] at q
    by_cases hbe : b = e
    · have q' : H b = some (.own x) := by
        rcases he with z | z
        · exact absurd (hbe.trans z) hb
        · rw [hbe]; exact z
      rw [q] at q'; cases q'
      obtain ⟨v, hv⟩ := heo
      exact ⟨v, by rw [hbe]; exact hv⟩
    · refine (ok b u q).stay (fun c v hc r => k c v ?_ r) (fun c r => by rw [upd_ne (nown c b r)]; exact r) fun c xs r => by rw [upd_ne (ntup c xs r)]; exact r
      rcases hc with rfl | hc
      · exact hbe
      · rintro rfl
        rcases he with z | z
        · exact nown c b hc z
        · rw [hc] at z; cases z; exact hb rfl
end

/-! ### kept unless tracked; of the frames at fs (the callers') the slots may change (an exception that passes writes there); of the records at ex (iterators) nothing is said -/
structure Un (fs ex : List Addr) (H H' : Hp) (h h' : Heap) : Prop where
  keep : ∀ b o, h.get? b = some o → H b = none → b ∉ fs → b ∉ ex → h'.get? b = some o
  slot : ∀ b o, h.get? b = some o → H b = none → b ∈ fs → b ∉ ex → ∃ sl, h'.get? b = some { o with slots := sl }
  free : ∀ b o, h.get? b = some o → H b = none → b ∉ ex → H' b = none
  there : ∀ b o, h.get? b = some o → b ∉ ex → ∃ o', h'.get? b = some o'
  tups : ∀ b xs, H b = some (.tup xs) → H' b = some (.tup xs)
  frzs : ∀ b o u, H b = some (.frz o u) → H' b = some (.frz o u)
  tbls : ∀ b ps, H b = some (.tbl ps) → ∃ more, H' b = some (.tbl (ps ++ more))
section
variable {fs fs' ex ex' : List Addr} {H H1 H2 : Hp} {h h1 h2 h' : Heap} {a x e : Addr} {o : HO}
theorem Un.any (u : Un fs ex H H1 h h1) {b : Addr} {ob : Obj} (q : h.get? b = some ob) (n : H b = none) (hx : b ∉ ex) : ∃ sl, h1.get? b = some { ob with slots := sl } := by
  by_cases hb : b ∈ fs
  · exact u.slot b ob q n hb hx
  · exact ⟨ob.slots, u.keep b ob q n hb hx⟩
theorem Un.trans (a : Un fs ex H H1 h h1) (b : Un fs ex H1 H2 h1 h2) : Un fs ex H H2 h h2 where
  keep := fun c ob q n hc hx => b.keep c ob (a.keep c ob q n hc hx) (a.free c ob q n hx) hc hx
  slot := fun c ob q n hc hx => by
    obtain ⟨sl, e1⟩ := a.slot c ob q n hc hx
    obtain ⟨sl', e2⟩ := b.slot c _ e1 (a.free c ob q n hx) hc hx
    exact ⟨sl', e2⟩
  free := fun c ob q n hx => by
    obtain ⟨o', e1⟩ := a.there c ob q hx
    exact b.free c o' e1 (a.free c ob q n hx) hx
  there := fun c ob q hx => by
    obtain ⟨o', e1⟩ := a.there c ob q hx
    exact b.there c o' e1 hx
  tups := fun c xs q => b.tups c xs (a.tups c xs q)
  frzs := fun c ob xs q => b.frzs c ob xs (a.frzs c ob xs q)
  tbls := fun c ps q => by
    obtain ⟨m1, e1⟩ := a.tbls c ps q
    obtain ⟨m2, e2⟩ := b.tbls c _ e1
    exact ⟨m1 ++ m2, by rw [e2, Array.append_assoc]⟩
theorem Un.kept (k : ∀ b u, h.get? b = some u → h'.get? b = some u) : Un fs ex H H h h' :=
  ⟨fun b ob q _ _ _ => k b ob q, fun b ob q _ _ _ => ⟨ob.slots, k b ob q⟩, fun _ _ _ n _ => n, fun b ob q _ => ⟨ob, k b ob q⟩, fun _ _ q => q, fun _ _ _ q => q, fun _ ps q => ⟨#[], by rw [q]; simp⟩⟩
theorem Un.refl : Un fs ex H H h h := Un.kept fun _ _ q => q
theorem Un.laid (k : ∀ b u, h.get? b = some u → h'.get? b = some u) (hp : h.objs.size ≤ a) (hn : H a = none) : Un fs ex H (upd H a o) h h' where
  keep := fun b u q _ _ _ => k b u q
  slot := fun b u q _ _ _ => ⟨u.slots, k b u q⟩
  free := fun b u q n _ => by rw [upd_ne (Nat.ne_of_lt (Nat.lt_of_lt_of_le (Heap.lt_size q) hp))]; exact n
  there := fun b u q _ => ⟨u, k b u q⟩
  tups := fun b xs q => by rw [upd_ne (ne_of_none q hn)]; exact q
  frzs := fun b u xs q => by rw [upd_ne (ne_of_none q hn)]; exact q
  tbls := fun b ps q => ⟨#[], by rw [upd_ne (ne_of_none q hn), q]; simp⟩
theorem Un.write (mu : Mut (H x)) (he : e = x ∨ H e = some (.own x)) (k : ∀ b u, b ≠ e → h.get? b = some u → h'.get? b = some u) (heo : ∃ u, h'.get? e = some u) : Un fs ex H (upd H x o) h h' := by
  have hx : ∀ b, H b = none → b ≠ x := fun b n z => by subst z; rw [n] at mu; exact mu
  have hb : ∀ b, H b = none → b ≠ e := fun b n z => by
    subst z
    rcases he with r | r
    · exact hx b n r
    · rw [n] at r; cases r
  have hm : ∀ b u, H b = some u → ¬ Mut (some u) → b ≠ x := fun b u q nm z => by subst z; rw [q] at mu; exact nm mu
  refine ⟨fun b u q n _ _ => k b u (hb b n) q, fun b u q n _ _ => ⟨u.slots, k b u (hb b n) q⟩, fun b u q n _ => by rw [upd_ne (hx b n)]; exact n, fun b u q _ => ?_,
    fun b xs q => by rw [upd_ne (hm b _ q fun z => z)]; exact q, fun b u xs q => by rw [upd_ne (hm b _ q fun z => z)]; exact q, fun b ps q => ⟨#[], by rw [upd_ne (hm b _ q fun z => z), q]; simp⟩⟩
  by_cases hbe : b = e
  · subst hbe; exact heo
  · exact ⟨u, k b u hbe q⟩
theorem Un.mono (u : Un fs ex H H1 h h1) (hs : ∀ b ∈ fs, b ∈ fs') (hx : ∀ b ∈ ex, b ∈ ex') : Un fs' ex' H H1 h h1 :=
  ⟨fun b ob q n hb he => u.keep b ob q n (fun z => hb (hs b z)) fun z => he (hx b z), fun _ _ q n _ he => u.any q n fun z => he (hx _ z), fun b ob q n he => u.free b ob q n fun z => he (hx b z), fun b ob q he => u.there b ob q fun z => he (hx b z), u.tups, u.frzs, u.tbls⟩
end

/-! ### the heap without what is tracked -/
def trk (h : Heap) (H : Hp) : List Addr := (List.range h.objs.size).filter fun a => (H a).isSome
def hidT (h : Heap) (H : Hp) : Heap := PySem.W.hideAll h (trk h H)
theorem hidT_size (h : Heap) (H : Hp) : (hidT h H).objs.size = h.objs.size := PySem.W.hideAll_size _ _
theorem hidT_get {h : Heap} {H : Hp} {b : Addr} {o : Obj} (e : h.get? b = some o) (n : H b = none) : (hidT h H).get? b = some o :=
  PySem.W.hideAll_get _ e fun hm => by
    have q : (H b).isSome = true := (List.mem_filter.mp hm).2
    rw [n] at q; simp at q
theorem of_hidT {h : Heap} {H : Hp} {b : Addr} {o : Obj} (e : (hidT h H).get? b = some o) : h.get? b = some o ∧ H b = none := by
  have e' : h.get? b = some o := PySem.W.of_hideAll (trk h H) e
  refine ⟨e', ?_⟩
  cases q : H b with
  | none => rfl
  | some x =>
    have hm : b ∈ trk h H := List.mem_filter.mpr ⟨List.mem_range.mpr (Heap.lt_size e'), by simp [q]⟩
    have z : (hidT h H).get? b = none := PySem.W.hideAll_none (trk h H) hm
    rw [z] at e; cases e

/-! ### OpenK's ledger, filled with every new object but one -/
def allNews (g h : Heap) (L : Addr) : List (Addr × Obj) := (List.range h.objs.size).filterMap fun a => if a = L ∨ (g.get? a).isSome = true then none else (h.get? a).map fun o => (a, o)
theorem mem_allNews {g h : Heap} {L a : Addr} {o : Obj} (h1 : a ≠ L) (h2 : g.get? a = none) (h3 : h.get? a = some o) : (a, o) ∈ allNews g h L :=
  List.mem_filterMap.mpr ⟨a, List.mem_range.mpr (Heap.lt_size h3), by simp [h1, h2, h3]⟩
theorem of_mem_allNews {g h : Heap} {L : Addr} {p : Addr × Obj} (hp : p ∈ allNews g h L) : p.1 ≠ L ∧ g.get? p.1 = none ∧ h.get? p.1 = some p.2 := by
  obtain ⟨b, _, e⟩ := List.mem_filterMap.mp hp
  split at e
  · cases e
  · rename_i hn
    cases q : h.get? b with
    | none => rw [q] at e; simp at e
    | some u =>
      rw [q] at e
      simp only [Option.map_some, Option.some.injEq] at e
      subst e
      refine ⟨fun z => hn (.inl z), ?_, q⟩
      show g.get? b = none
      cases r : g.get? b with
      | none => rfl
      | some v => exact (hn (.inr (by simp [r]))).elim
def rest (g h : Heap) (L d : Addr) : List (Addr × Obj) := (allNews g h L).filter fun p => decide (p.1 ≠ d)
theorem rest_ne {g h : Heap} {L d : Addr} : ∀ p ∈ rest g h L d, p.1 ≠ d := fun p hp => of_decide_eq_true (List.mem_filter.mp hp).2
theorem mem_rest {g h : Heap} {L d a : Addr} {o : Obj} (h1 : a ≠ L) (h2 : g.get? a = none) (h3 : h.get? a = some o) (h4 : a ≠ d) : (a, o) ∈ rest g h L d :=
  List.mem_filter.mpr ⟨mem_allNews h1 h2 h3, decide_eq_true h4⟩
theorem news_all {g h : Heap} {L : Addr} : News g L h (allNews g h L) := fun p hp => let ⟨a, b, c⟩ := of_mem_allNews hp; ⟨c, a, b⟩
theorem news_at {g h : Heap} {L d : Addr} {o : Obj} (h1 : d ≠ L) (h2 : g.get? d = none) (h3 : h.get? d = some o) : News g L h ((d, o) :: rest g h L d) := fun p hp => by
  rcases List.mem_cons.mp hp with rfl | hp
  · exact ⟨h3, h1, h2⟩
  · exact news_all p (List.mem_filter.mp hp).1
/-- behind a rule that changed d alone: all else but the frame is kept -/
theorem kept_of_news {g h h' : Heap} {L d : Addr} {m : Str → Option Value} (k : ∀ b o, g.get? b = some o → h.get? b = some o) (F : Fr g L h' m) (N : News g L h' (rest g h L d)) :
    ∀ b o, b ≠ L → b ≠ d → h.get? b = some o → h'.get? b = some o := fun b o h1 h2 e => by
  cases q : g.get? b with
  | some u =>
    have := k b u q
    rw [e] at this; cases this
    exact F.keep b _ q
  | none => exact (N (b, o) (mem_rest h1 q e h2)).1
end L2

namespace L2
open PySem PySem.Spec PyProof.Rows

/-- the module's facts, over the base: the heap at the law's entry without what is tracked there -/
structure Mod (K : PySem.W.Frag) (mg : Str → Option Value) (base : Heap) : Prop where
  kin : K.In base
  glob : base.Ns mainGlobals mg
  blt : ∃ mb, base.Ns builtinsNs mb ∧ ∀ x : Str, x ≠ "__name__" → mb x = bootBuiltins x
  nolimit : base.NoLimit

/-- the context: a def's body (or a comprehension's block) running. base: fixed through the whole law; s₀, H₀: the entry; outer: the frames whose slots others may change (a def's callers); stack: all frames that run;
   ex: iterators that were made ahead of the entry and are walked here (a comprehension's); fn: the names whose cells were made at the entry (a def: all; a comprehension's block: its own); calm: not within an except suite; pn: pins that every state bears; xe: what is wanted of an exception that leaves the code -/
structure Cx where
  prog : Program
  w : World
  K : PySem.W.Frag
  mg : Str → Option Value
  base : Heap
  A : Around
  N : List Str
  s₀ : Shared
  H₀ : Hp
  env : Env
  outer : List Env
  stack : List Env
  ex : List Addr
  fn : Str → Bool
  calm : Bool
  pn : List (Addr × Obj)
  xe : Value → Shared → Prop
/-- the callers' frames -/
def frs (l : List Env) : List Addr := l.filterMap (·.frame)
abbrev Cx.fs (X : Cx) : List Addr := frs X.outer

def Vis (sc : Scope) (x : Str) : Prop := sc.names.lookup x = some .local ∨ sc.names.lookup x = some .cell ∨ sc.names.lookup x = some .free
def Loc (sc : Scope) (x : Str) : Prop := sc.names.lookup x = some .local ∨ sc.names.lookup x = some .cell
def Look (env : Env) (h : Heap) (m : Str → Option Value) (x : Str) (u : Value) : Prop :=
  (env.kindOf x = some .local ∧ m x = some u) ∨ ((env.kindOf x = some .cell ∨ env.kindOf x = some .free) ∧ ∃ c, env.cells.lookup x = some c ∧ h.IsCell c (some u))

structure Cx.Ok (X : Cx) : Prop where
  mod : Mod X.K X.mg X.base
  kind : X.env.scope.kind = .function
  glob : X.env.globals = mainGlobals
  blt : X.env.builtins = builtinsNs
  above : X.s₀.heap.objs.size ≤ X.env.locals
  inj : ∀ x y c, X.env.cells.lookup x = some c → X.env.cells.lookup y = some c → x = y
  has : ∀ x, (X.env.kindOf x = some .cell ∨ X.env.kindOf x = some .free) → ∃ c, X.env.cells.lookup x = some c
  cab : ∀ x c, X.fn x = true → X.env.cells.lookup x = some c → X.s₀.heap.objs.size ≤ c
  hd : X.calm = true → X.A.handled = none
  frames : X.A.frames = some X.stack
  stk : X.stack = X.outer ∨ (X.stack = X.env :: X.outer ∧ X.env.frame = some X.env.locals)
  exf : ∀ b ∈ X.ex, b ≠ X.env.locals ∧ ∀ x c, X.env.cells.lookup x = some c → c ≠ b
  bs : ∀ b o, X.base.get? b = some o → X.s₀.heap.get? b = some o ∧ X.H₀ b = none
  bsz : X.base.objs.size ≤ X.s₀.heap.objs.size
  noex : ∀ b o, X.base.get? b = some o → b ∉ X.ex
  exfs : ∀ b ∈ X.ex, b ∉ X.fs
  funs : X.s₀.heap.FunFrames X.base X.outer
  frf : ∀ b ∈ X.fs, X.H₀ b = none

structure Inv (X : Cx) (pins : List (Addr × Obj)) (σ : List (Option V)) (H : Hp) (s : Shared) : Prop where
  ok : X.Ok
  os : s.os = X.s₀.os
  bare : AllBare s.gens
  base : Un X.fs X.ex X.H₀ H X.s₀.heap s.heap
  loc : ∃ m, s.heap.Ns X.env.locals m ∧ ∀ (i : Nat) (x : Str) (v : V), X.N[i]? = some x → σ[i]? = some (some v) → Vis X.env.scope x → ∃ u, RelV v u ∧ Look X.env s.heap m x u
  cell : ∀ x c, X.env.cells.lookup x = some c → ∃ v, s.heap.IsCell c v
  free : H X.env.locals = none
  freeC : ∀ x c, X.env.cells.lookup x = some c → H c = none
  pin : ∀ p ∈ X.pn ++ pins, s.heap.get? p.1 = some p.2 ∧ H p.1 = none ∧ p.1 ≠ X.env.locals ∧ p.1 ∉ X.fs ∧ ∀ v, p.2.data ≠ .cell v
  hok : HOk X.prog X.w H s.heap
  len : σ.length = X.N.length

section
variable {X : Cx} {pins : List (Addr × Obj)} {σ : List (Option V)} {H H' : Hp} {s : Shared} {h' : Heap}

theorem Cx.Ok.nofr (ok : X.Ok) {b : Addr} {o : Obj} (e : X.base.get? b = some o) : b ∉ X.fs := fun hb => by
  have := (ok.funs.mem hb).1
  rw [e] at this; cases this
theorem Inv.bs (I : Inv X pins σ H s) : ∀ b o, X.base.get? b = some o → s.heap.get? b = some o ∧ H b = none := fun b o e =>
  ⟨I.base.keep b o (I.ok.bs b o e).1 (I.ok.bs b o e).2 (I.ok.nofr e) (I.ok.noex b o e), I.base.free b o (I.ok.bs b o e).1 (I.ok.bs b o e).2 (I.ok.noex b o e)⟩
theorem Inv.bk (I : Inv X pins σ H s) : ∀ b o, X.base.get? b = some o → s.heap.get? b = some o := fun b o e => (I.bs b o e).1
theorem Inv.mod (I : Inv X pins σ H s) : Mod X.K X.mg X.base := I.ok.mod
theorem Inv.kIn (I : Inv X pins σ H s) : X.K.In s.heap := I.ok.mod.kin.keeps I.bk
theorem Inv.nolimit (I : Inv X pins σ H s) : s.heap.NoLimit := I.ok.mod.nolimit.keeps I.bk
/-- the frame over the base: for OpenK's rules (K.In X.base is I.mod.kin) -/
theorem Inv.fr (I : Inv X pins σ H s) : ∃ m, Fr X.base X.env.locals s.heap m :=
  let ⟨m, hn, _⟩ := I.loc
  ⟨m, hn, I.bk, Nat.le_trans I.ok.bsz I.ok.above⟩
theorem Inv.lt (I : Inv X pins σ H s) : X.env.locals < s.heap.objs.size := let ⟨_, hn, _⟩ := I.loc; hn.lt
theorem Inv.sz (I : Inv X pins σ H s) : X.s₀.heap.objs.size ≤ s.heap.objs.size := Nat.le_trans I.ok.above (Nat.le_of_lt I.lt)
theorem Inv.nofs (I : Inv X pins σ H s) {a : Addr} (h : s.heap.objs.size ≤ a) : a ∉ X.fs := fun hb => by
  obtain ⟨_, o, ho, _⟩ := I.ok.funs.mem hb
  exact absurd (Nat.lt_of_lt_of_le (Heap.lt_size ho) (Nat.le_trans I.sz h)) (Nat.lt_irrefl _)
theorem Inv.cne (I : Inv X pins σ H s) : ∀ x c, X.env.cells.lookup x = some c → c ≠ X.env.locals := fun x c e z => by
  obtain ⟨v, o, ho, hd⟩ := I.cell x c e
  obtain ⟨m, ⟨o', es, ep, ho', hd', _⟩, _⟩ := I.loc
  rw [z, ho'] at ho; cases ho; rw [hd'] at hd; cases hd
theorem Inv.funs (I : Inv X pins σ H s) : s.heap.FunFrames X.base X.outer := by
  have all : ∀ (l : List Env), (∀ b ∈ frs l, b ∈ X.fs) → X.s₀.heap.FunFrames X.base l → s.heap.FunFrames X.base l := by
    intro l
    induction l with
    | nil => intro _ _; trivial
    | cons env r ih =>
      intro hs hl
      obtain ⟨hk, ⟨L, o, hf, hn, ho, hd⟩, hr⟩ := hl
      have hL : L ∈ X.fs := hs L (by unfold frs; rw [List.filterMap_cons, hf]; exact List.mem_cons_self)
      obtain ⟨sl, e⟩ := I.base.slot L o ho (I.ok.frf L hL) hL fun z => I.ok.exfs L z hL
      exact ⟨hk, ⟨L, _, hf, hn, e, hd⟩, ih (fun b hb => hs b (by unfold frs; rw [List.filterMap_cons, hf]; exact List.mem_cons_of_mem _ hb)) hr⟩
  exact all X.outer (fun _ hb => hb) I.ok.funs

/-- the frames that run, for a call -/
theorem Inv.stack (I : Inv X pins σ H s) : s.heap.FunFrames X.base X.stack := by
  rcases I.ok.stk with e | ⟨e, hf⟩
  · rw [e]; exact I.funs
  · rw [e]
    obtain ⟨m, hn, _⟩ := I.loc
    refine .cons (by rw [I.ok.kind]; decide) hf hn ?_ I.funs
    exact Heap.get?_none_of_le (Nat.le_trans I.ok.bsz I.ok.above)
theorem Inv.stkSub (I : Inv X pins σ H s) : ∀ b ∈ frs X.stack, b ∈ X.env.locals :: X.fs := fun b hb => by
  rcases I.ok.stk with e | ⟨e, hf⟩
  · rw [e] at hb; exact List.mem_cons_of_mem _ hb
  · rw [e] at hb
    unfold frs at hb
    rw [List.filterMap_cons, hf] at hb
    exact hb
theorem Inv.stkFree (I : Inv X pins σ H s) : ∀ b ∈ frs X.stack, H b = none := fun b hb => by
  rcases List.mem_cons.mp (I.stkSub b hb) with e | hb
  · rw [e]; exact I.free
  · obtain ⟨_, o, ho, _⟩ := I.ok.funs.mem hb
    exact I.base.free b o ho (I.ok.frf b hb) fun z => I.ok.exfs b z hb

/-- THE STEP: the untracked objects but the frame and the records at ch are kept (the callers' frames up to slots), the frame's map is kept, the new abstract heap is held -/
theorem Inv.step {g' : Array GenState} {t' : Nat} {d' : Drawn} {ch : List Addr} (I : Inv X pins σ H s)
    (hch : ∀ b ∈ ch, (b ∈ X.ex ∨ X.s₀.heap.objs.size ≤ b) ∧ b ≠ X.env.locals ∧ (∀ x c, X.env.cells.lookup x = some c → c ≠ b) ∧ ∀ p ∈ X.pn ++ pins, p.1 ≠ b)
    (keep : ∀ b o, b ≠ X.env.locals → b ∉ X.fs → b ∉ ch → s.heap.get? b = some o → H b = none → h'.get? b = some o)
    (slot : ∀ b o, b ≠ X.env.locals → b ∈ X.fs → b ∉ ch → s.heap.get? b = some o → H b = none → ∃ sl, h'.get? b = some { o with slots := sl }) (free : ∀ b o, b ∉ ch → s.heap.get? b = some o → H b = none → H' b = none)
    (there : ∀ b o, b ∉ ch → s.heap.get? b = some o → ∃ o', h'.get? b = some o')
    (tups : ∀ b xs, H b = some (.tup xs) → H' b = some (.tup xs)) (frzs : ∀ b o u, H b = some (.frz o u) → H' b = some (.frz o u)) (tbls : ∀ b ps, H b = some (.tbl ps) → ∃ more, H' b = some (.tbl (ps ++ more)))
    (ns : ∀ m, s.heap.Ns X.env.locals m → h'.Ns X.env.locals m) (hok : HOk X.prog X.w H' h') (hg : AllBare g') :
    Inv X pins σ H' { s with heap := h', gens := g', drawn := d', toks := t' } := by
  have neL : ∀ b o, X.s₀.heap.get? b = some o → b ≠ X.env.locals := fun b o e => Nat.ne_of_lt (Nat.lt_of_lt_of_le (Heap.lt_size e) I.ok.above)
  have neC : ∀ b o, X.s₀.heap.get? b = some o → b ∉ X.ex → b ∉ ch := fun b o e hx hb => by
    rcases (hch b hb).1 with z | z
    · exact hx z
    · exact absurd (Nat.lt_of_lt_of_le (Heap.lt_size e) z) (Nat.lt_irrefl _)
  have cellK : ∀ x c, X.env.cells.lookup x = some c → ∀ v, s.heap.IsCell c v → h'.IsCell c v := fun x c e v ⟨o, ho, hd⟩ => by
    have nch : c ∉ ch := fun z => (hch c z).2.2.1 x c e rfl
    by_cases hc : c ∈ X.fs
    · obtain ⟨sl, q⟩ := slot c o (I.cne x c e) hc nch ho (I.freeC x c e)
      exact ⟨_, q, hd⟩
    · exact ⟨o, keep c o (I.cne x c e) hc nch ho (I.freeC x c e), hd⟩
  refine ⟨I.ok, I.os, hg, ⟨fun b o e n hb hx => ?_, fun b o e n hb hx => ?_, fun b o e n hx => ?_, fun b o e hx => ?_, fun b xs e => tups b xs (I.base.tups b xs e), fun b o xs e => frzs b o xs (I.base.frzs b o xs e), fun b ps e => ?_⟩, ?_, fun x c e => ?_, ?_, fun x c e => ?_, fun p hp => ?_, hok, I.len⟩
  · exact keep b o (neL b o e) hb (neC b o e hx) (I.base.keep b o e n hb hx) (I.base.free b o e n hx)
  · obtain ⟨sl, e1⟩ := I.base.slot b o e n hb hx
    obtain ⟨sl', e2⟩ := slot b _ (neL b o e) hb (neC b o e hx) e1 (I.base.free b o e n hx)
    exact ⟨sl', e2⟩
  · obtain ⟨o', e1⟩ := I.base.there b o e hx
    exact free b o' (neC b o e hx) e1 (I.base.free b o e n hx)
  · obtain ⟨o', e1⟩ := I.base.there b o e hx
    exact there b o' (neC b o e hx) e1
  · obtain ⟨m1, e1⟩ := I.base.tbls b ps e
    obtain ⟨m2, e2⟩ := tbls b _ e1
    exact ⟨m1 ++ m2, by rw [e2, Array.append_assoc]⟩
  · obtain ⟨m, hn, hl⟩ := I.loc
    refine ⟨m, ns m hn, fun i x v e1 e2 e3 => ?_⟩
    obtain ⟨u, r, l⟩ := hl i x v e1 e2 e3
    refine ⟨u, r, ?_⟩
    rcases l with l | ⟨k, c, e, z⟩
    · exact .inl l
    · exact .inr ⟨k, c, e, cellK x c e _ z⟩
  · obtain ⟨v, z⟩ := I.cell x c e
    exact ⟨v, cellK x c e v z⟩
  · obtain ⟨m, ⟨o, _, _, ho, _⟩, _⟩ := I.loc
    exact free _ o (fun z => (hch _ z).2.1 rfl) ho I.free
  · obtain ⟨v, o, ho, hd⟩ := I.cell x c e
    exact free c o (fun z => (hch c z).2.2.1 x c e rfl) ho (I.freeC x c e)
  · obtain ⟨e, n, ne, nf, d⟩ := I.pin p hp
    have nch : p.1 ∉ ch := fun z => (hch p.1 z).2.2.2 p hp rfl
    exact ⟨keep p.1 p.2 ne nf nch e n, free p.1 p.2 nch e n, ne, nf, d⟩
/-- .. where the frame's own object is kept too -/
theorem Inv.un {t' : Nat} (I : Inv X pins σ H s) (u : Un X.fs [] H H' s.heap h') (hok : HOk X.prog X.w H' h') : Inv X pins σ H' { s with heap := h', toks := t' } := by
  obtain ⟨m, ⟨o, es, ep, ho, r⟩, _⟩ := id I.loc
  obtain ⟨sl, hL⟩ := u.any ho I.free (by simp)
  exact I.step (g' := s.gens) (d' := s.drawn) (ch := []) (fun _ z => nomatch z) (fun b o _ hb _ e n => u.keep b o e n hb (by simp)) (fun b o _ hb _ e n => u.slot b o e n hb (by simp)) (fun b o _ e n => u.free b o e n (by simp)) (fun b o _ e => u.there b o e (by simp)) u.tups u.frzs u.tbls (fun m' hm => by
    obtain ⟨o', es', ep', ho', r'⟩ := hm
    rw [ho] at ho'; cases ho'
    exact ⟨_, es', ep', hL, r'⟩) hok I.bare
/-- behind a call (or a comprehension's block): the slots of this frame may have changed too, the records at ch may have turned -/
theorem Inv.call {g' : Array GenState} {t' : Nat} {d' : Drawn} {ch : List Addr} (I : Inv X pins σ H s) (u : Un (frs X.stack) ch H H' s.heap h') (hok : HOk X.prog X.w H' h') (hg : AllBare g')
    (hch : ∀ b ∈ ch, (b ∈ X.ex ∨ X.s₀.heap.objs.size ≤ b) ∧ b ≠ X.env.locals ∧ (∀ x c, X.env.cells.lookup x = some c → c ≠ b) ∧ ∀ p ∈ X.pn ++ pins, p.1 ≠ b) :
    Inv X pins σ H' { s with heap := h', gens := g', drawn := d', toks := t' } := by
  obtain ⟨m, ⟨o, es, ep, ho, r⟩, _⟩ := id I.loc
  obtain ⟨sl, hL⟩ := u.any ho I.free fun z => (hch _ z).2.1 rfl
  exact I.step (ch := ch) hch (fun b o hL hb hc e n => u.keep b o e n (fun z => (List.mem_cons.mp (I.stkSub b z)).elim hL hb) hc) (fun b o _ _ hc e n => u.any e n hc) (fun b o hc e n => u.free b o e n hc) (fun b o hc e => u.there b o e hc) u.tups u.frzs u.tbls (fun m' hm => by
    obtain ⟨o', es', ep', ho', r'⟩ := hm
    rw [ho] at ho'; cases ho'
    exact ⟨_, es', ep', hL, r'⟩) hok hg
/-- an untracked record of ours (an iterator) has turned -/
theorem Inv.turned {t' : Nat} {it : Addr} (I : Inv X pins σ H s) (k : ∀ b o, b ≠ it → s.heap.get? b = some o → h'.get? b = some o) (hn : H it = none) (hL : it ≠ X.env.locals)
    (h1 : it ∈ X.ex ∨ X.s₀.heap.objs.size ≤ it) (h2 : ∀ x c, X.env.cells.lookup x = some c → c ≠ it) (h3 : ∀ p ∈ X.pn ++ pins, p.1 ≠ it) : Inv X pins σ H { s with heap := h', toks := t' } := by
  have nit : ∀ b u, H b = some u → b ≠ it := fun b u e z => by rw [z, hn] at e; cases e
  refine I.step (g' := s.gens) (d' := s.drawn) (ch := [it]) (fun b hb => ?_) (fun b o _ _ hc e _ => k b o (fun z => hc (by simp [z])) e) (fun b o _ _ hc e _ => ⟨o.slots, k b o (fun z => hc (by simp [z])) e⟩) (fun _ _ _ _ n => n)
    (fun b o hc e => ⟨o, k b o (fun z => hc (by simp [z])) e⟩) (fun _ _ e => e) (fun _ _ _ e => e) (fun b ps e => ⟨#[], by rw [e]; simp⟩) (fun m hm => ?_) (fun b u e => ?_) I.bare
  · have e : b = it := by simpa using hb
    subst e
    exact ⟨h1, hL, h2, h3⟩
  · obtain ⟨o, es, ep, ho, r⟩ := hm
    exact ⟨o, es, ep, k _ o (Ne.symm hL) ho, r⟩
  · refine (I.hok b u e).stay (fun c v hc q => k c v ?_ q) (fun _ q => q) fun _ _ q => q
    rcases hc with z | z
    · rw [z]; exact nit b u e
    · exact nit c _ z
theorem Inv.tok (I : Inv X pins σ H s) (t : Nat) : Inv X pins σ H { s with toks := t } := I.un (h' := s.heap) (t' := t) Un.refl I.hok
/-- all objects kept -/
theorem Inv.kept {t' : Nat} (I : Inv X pins σ H s) (k : ∀ b u, s.heap.get? b = some u → h'.get? b = some u) : Inv X pins σ H { s with heap := h', toks := t' } := I.un (Un.kept k) (I.hok.kept k)
/-- a new object laid and tracked -/
theorem Inv.laid {a : Addr} {o : HO} {t' : Nat} (I : Inv X pins σ H s) (k : ∀ b u, s.heap.get? b = some u → h'.get? b = some u) (hp : s.heap.objs.size ≤ a) (new : ObjOk X.prog X.w (upd H a o) h' a o) :
    Inv X pins σ (upd H a o) { s with heap := h', toks := t' } := I.un (Un.laid k hp (I.hok.fresh hp)) (I.hok.laid k hp new)
/-- an object written -/
theorem Inv.write {x e : Addr} {o : HO} {t' : Nat} (I : Inv X pins σ H s) (mu : Mut (H x)) (he : e = x ∨ H e = some (.own x)) (k : ∀ b u, b ≠ e → s.heap.get? b = some u → h'.get? b = some u) (heo : ∃ u, h'.get? e = some u)
    (new : ObjOk X.prog X.w (upd H x o) h' x o) : Inv X pins σ (upd H x o) { s with heap := h', toks := t' } := I.un (Un.write mu he k heo) (I.hok.write mu he k heo new)
/-- forgetting slots, pins -/
theorem Inv.weak {σ' : List (Option V)} (I : Inv X pins σ H s) (hl : σ'.length = σ.length) (w : ∀ (i : Nat) v, σ'[i]? = some (some v) → σ[i]? = some (some v)) : Inv X pins σ' H s :=
  ⟨I.ok, I.os, I.bare, I.base, let ⟨m, hn, hl'⟩ := I.loc; ⟨m, hn, fun i x v e1 e2 e3 => hl' i x v e1 (w i v e2) e3⟩, I.cell, I.free, I.freeC, I.pin, I.hok, hl.trans I.len⟩
theorem Inv.pins_of {pins' : List (Addr × Obj)} (I : Inv X pins σ H s) (h : ∀ p ∈ pins', s.heap.get? p.1 = some p.2 ∧ H p.1 = none ∧ p.1 ≠ X.env.locals ∧ p.1 ∉ X.fs ∧ ∀ v, p.2.data ≠ .cell v) : Inv X pins' σ H s :=
  ⟨I.ok, I.os, I.bare, I.base, I.loc, I.cell, I.free, I.freeC, fun p hp => (List.mem_append.mp hp).elim (fun z => I.pin p (List.mem_append_left _ z)) (h p), I.hok, I.len⟩

theorem nodup_ix {N : List Str} (hN : N.Nodup) {i j : Nat} {x : Str} (a : N[i]? = some x) (b : N[j]? = some x) : i = j := by
  obtain ⟨h1, e1⟩ := List.getElem?_eq_some_iff.mp a
  obtain ⟨h2, e2⟩ := List.getElem?_eq_some_iff.mp b
  exact (List.getElem_inj hN).mp (e1.trans e2.symm)

/-- a name is stored; what changed -/
theorem store_ok2 {M : Model} {A : Around} {E : Value → Shared → Prop} {i : Nat} {x : Str} {v : V} {u : Value} {Q : Unit → Shared → Prop} (I : Inv X pins σ H s) (hN : X.N.Nodup) (hi : X.N[i]? = some x) (hx : Loc X.env.scope x) (r : RelV v u)
    (h : ∀ s', Inv X pins (σ.set i (some v)) H s' → (∃ a, Heap.SameBut a s.heap s'.heap ∧ (a = X.env.locals ∨ X.env.cells.lookup x = some a)) → Q () s') (hf : X.fn x = true ∨ X.env.scope.names.lookup x = some .local := by first | exact .inl rfl | exact .inr rfl | assumption) : wpAny M A (storeName X.env x u) Q E s := by
  obtain ⟨m, hn, hl⟩ := id I.loc
  have hcls : (X.env.scope.kind == .class || (X.env.scope.kind == .module && X.env.locals != X.env.globals)) = false := by rw [I.ok.kind]; rfl
  have hiσ : i < σ.length := by rw [I.len]; exact (List.getElem?_eq_some_iff.mp hi).1
  have cne := I.cne
  have tracked : ∀ {a : Addr} {h' : Heap}, (∃ o, s.heap.get? a = some o ∧ H a = none) → Heap.SameBut a s.heap h' → HOk X.prog X.w H h' := fun {a h'} ha hs b ob e => by
    obtain ⟨_, _, hfree⟩ := ha
    refine (I.hok b ob e).stay (fun c w' hc q => (hs.2 c ?_).trans q) (fun _ q => q) fun _ _ q => q
    rintro rfl
    rcases hc with rfl | hc
    · rw [hfree] at e; cases e
    · rw [hfree] at hc; cases hc
  rcases hx with hk | hk
  · refine wpAny_storeName_local hk hn (fun h' hn' hs => ?_) hcls
    obtain ⟨oL, _, _, hoL, _⟩ := id hn
    refine h _ ⟨I.ok, I.os, I.bare, ⟨fun b o e n hb hx => ?_, fun b o e n hb hx => ?_, I.base.free, fun b o e hx => ?_, I.base.tups, I.base.frzs, I.base.tbls⟩, ⟨_, hn', fun j y v' e1 e2 e3 => ?_⟩, fun y c e => ?_, I.free, I.freeC, fun p hp => ?_, tracked ⟨oL, hoL, I.free⟩ hs, by simpa using I.len⟩ ⟨_, hs, .inl rfl⟩
    · exact (hs.2 b (Nat.ne_of_lt (Nat.lt_of_lt_of_le (Heap.lt_size e) I.ok.above))).trans (I.base.keep b o e n hb hx)
    · obtain ⟨sl, e1⟩ := I.base.slot b o e n hb hx
      exact ⟨sl, (hs.2 b (Nat.ne_of_lt (Nat.lt_of_lt_of_le (Heap.lt_size e) I.ok.above))).trans e1⟩
    · obtain ⟨o', e1⟩ := I.base.there b o e hx
      exact ⟨o', (hs.2 b (Nat.ne_of_lt (Nat.lt_of_lt_of_le (Heap.lt_size e) I.ok.above))).trans e1⟩
    · by_cases hj : j = i
      · subst hj
        rw [hi] at e1; cases e1
        rw [List.getElem?_set_self hiσ] at e2
        cases e2
        exact ⟨u, r, .inl ⟨hk, by simp⟩⟩
      · rw [List.getElem?_set_ne (Ne.symm hj)] at e2
        obtain ⟨u', r', q⟩ := hl j y v' e1 e2 e3
        refine ⟨u', r', ?_⟩
        rcases q with ⟨k, e⟩ | ⟨k, c, e, z⟩
        · refine .inl ⟨k, ?_⟩
          have : y ≠ x := fun e => hj (nodup_ix hN e1 (e ▸ hi))
          simp [this, e]
        · exact .inr ⟨k, c, e, z.sameBut hs (cne y c e)⟩
    · obtain ⟨w', z⟩ := I.cell y c e
      exact ⟨w', z.sameBut hs (cne y c e)⟩
    · obtain ⟨e, n, ne, nf, d⟩ := I.pin p hp
      exact ⟨(hs.2 p.1 ne).trans e, n, ne, nf, d⟩
  · have hfn : X.fn x = true := by
      rcases hf with z | z
      · exact z
      · rw [z] at hk; cases hk
    obtain ⟨c, hc⟩ := I.ok.has x (.inl hk)
    obtain ⟨w', z⟩ := I.cell x c hc
    refine wpAny_storeName_cell I.ok.kind hk hc z (fun h' hc' hs => ?_)
    obtain ⟨oc, hoc, hocd⟩ := id z
    refine h { s with heap := h' } ⟨I.ok, I.os, I.bare, ⟨fun b o e n hb hx => ?_, fun b o e n hb hx => ?_, I.base.free, fun b o e hx => ?_, I.base.tups, I.base.frzs, I.base.tbls⟩, ⟨m, hn.sameBut hs (Ne.symm (cne x c hc)), fun j y v' e1 e2 e3 => ?_⟩, fun y c' e => ?_, I.free, I.freeC, fun p hp => ?_, tracked ⟨oc, hoc, I.freeC x c hc⟩ hs, by simpa using I.len⟩ ⟨c, hs, .inr hc⟩
    · exact (hs.2 b (Nat.ne_of_lt (Nat.lt_of_lt_of_le (Heap.lt_size e) (I.ok.cab x c hfn hc)))).trans (I.base.keep b o e n hb hx)
    · obtain ⟨sl, e1⟩ := I.base.slot b o e n hb hx
      exact ⟨sl, (hs.2 b (Nat.ne_of_lt (Nat.lt_of_lt_of_le (Heap.lt_size e) (I.ok.cab x c hfn hc)))).trans e1⟩
    · obtain ⟨o', e1⟩ := I.base.there b o e hx
      exact ⟨o', (hs.2 b (Nat.ne_of_lt (Nat.lt_of_lt_of_le (Heap.lt_size e) (I.ok.cab x c hfn hc)))).trans e1⟩
    · by_cases hj : j = i
      · subst hj
        rw [hi] at e1; cases e1
        rw [List.getElem?_set_self hiσ] at e2
        cases e2
        exact ⟨u, r, .inr ⟨.inl hk, c, hc, hc'⟩⟩
      · rw [List.getElem?_set_ne (Ne.symm hj)] at e2
        obtain ⟨u', r', q⟩ := hl j y v' e1 e2 e3
        refine ⟨u', r', ?_⟩
        rcases q with q | ⟨k, c', e, z'⟩
        · exact .inl q
        · refine .inr ⟨k, c', e, z'.sameBut hs ?_⟩
          rintro rfl
          exact hj (nodup_ix hN e1 (I.ok.inj _ _ _ e hc ▸ hi))
    · by_cases hcc : c' = c
      · subst hcc; exact ⟨_, hc'⟩
      · obtain ⟨w2, z2⟩ := I.cell y c' e
        exact ⟨w2, z2.sameBut hs hcc⟩
    · obtain ⟨e, n, ne, nf, d⟩ := I.pin p hp
      refine ⟨(hs.2 p.1 ?_).trans e, n, ne, nf, d⟩
      intro q
      rw [q, hoc] at e
      have q' : oc = p.2 := Option.some.inj e
      exact d w' (by rw [← q']; exact hocd)
theorem store_ok {M : Model} {A : Around} {E : Value → Shared → Prop} {i : Nat} {x : Str} {v : V} {u : Value} {Q : Unit → Shared → Prop} (I : Inv X pins σ H s) (hN : X.N.Nodup) (hi : X.N[i]? = some x) (hx : Loc X.env.scope x) (r : RelV v u)
    (h : ∀ s', Inv X pins (σ.set i (some v)) H s' → Q () s') (hf : X.fn x = true ∨ X.env.scope.names.lookup x = some .local := by first | exact .inl rfl | exact .inr rfl | assumption) : wpAny M A (storeName X.env x u) Q E s :=
  store_ok2 I hN hi hx r (fun s' I' _ => h s' I') hf
/-- behind a call or a block, the state as it is -/
theorem Inv.call' {s' : Shared} {ch : List Addr} (I : Inv X pins σ H s) (ho : s'.os = s.os) (u : Un (frs X.stack) ch H H' s.heap s'.heap) (hok : HOk X.prog X.w H' s'.heap) (hg : AllBare s'.gens)
    (hch : ∀ b ∈ ch, (b ∈ X.ex ∨ X.s₀.heap.objs.size ≤ b) ∧ b ≠ X.env.locals ∧ (∀ x c, X.env.cells.lookup x = some c → c ≠ b) ∧ ∀ p ∈ X.pn ++ pins, p.1 ≠ b) : Inv X pins σ H' s' := by
  obtain ⟨h', g', d', t', o'⟩ := s'
  have e : o' = s.os := ho
  subst e
  exact I.call (g' := g') (t' := t') (d' := d') u hok hg hch
end

/-! ### the judgements -/
/-- an exception: its class, its own dict's address (where it has one), the abstract heap behind it -/
abbrev XK := Value → Option Addr → Hp → Prop
abbrev St := List (Option V)
abbrev VK := V → Hp → Prop
/-- an expression's reading; a test's; an argument list's -/
abbrev TE := St → Hp → VK → Prop
abbrev TT := St → Hp → (Bool → Hp → Prop) → Prop
abbrev TA := St → Hp → (List V → Hp → Prop) → Prop
/-- what is wanted behind a statement -/
structure Ends where
  nx : St → Hp → Prop
  rt : VK
  bk : St → Hp → Prop := fun _ _ => False
  ct : St → Hp → Prop := fun _ _ => False
abbrev TS := Ends → St → Hp → Prop

def EP (X : Cx) (pins : List (Addr × Obj)) (σ : St) (Q : VK) (u : Value) (s' : Shared) : Prop := ∃ v H', Inv X pins σ H' s' ∧ RelV v u ∧ Q v H'
def TP (X : Cx) (pins : List (Addr × Obj)) (σ : St) (Q : Bool → Hp → Prop) (b : Bool) (s' : Shared) : Prop := ∃ H', Inv X pins σ H' s' ∧ Q b H'
def AP (X : Cx) (pins : List (Addr × Obj)) (σ : St) (Q : List V → Hp → Prop) (us : List Value) (s' : Shared) : Prop := ∃ vs H', Inv X pins σ H' s' ∧ Vals vs us ∧ Q vs H'
def SP (X : Cx) (pins : List (Addr × Obj)) (D : Ends) (f : Flow) (s' : Shared) : Prop :=
  match f with
  | .next => ∃ σ' H', Inv X pins σ' H' s' ∧ D.nx σ' H'
  | .brk => ∃ σ' H', Inv X pins σ' H' s' ∧ D.bk σ' H'
  | .cont => ∃ σ' H', Inv X pins σ' H' s' ∧ D.ct σ' H'
  | .ret u => ∃ v σ' H', Inv X pins σ' H' s' ∧ RelV v u ∧ D.rt v H'

def PE (X : Cx) (e : Expr) (t : TE) : Prop :=
  ∀ (pins : List (Addr × Obj)) (s : Shared) (σ : St) (H : Hp) (Q : VK), Inv X pins σ H s → t σ H Q → wpAny (model X.prog X.w) X.A (eval e X.env) (EP X pins σ Q) X.xe s
def PT (X : Cx) (e : Expr) (t : TT) : Prop :=
  ∀ (pins : List (Addr × Obj)) (s : Shared) (σ : St) (H : Hp) (Q : Bool → Hp → Prop), Inv X pins σ H s → t σ H Q → wpAny (model X.prog X.w) X.A (isTrue e X.env (eval e X.env)) (TP X pins σ Q) X.xe s
/-- a test whatever its 'whole' is (and, or) -/
def PW (X : Cx) (e : Expr) (t : TT) : Prop :=
  ∀ (whole : Sem Value) (pins : List (Addr × Obj)) (s : Shared) (σ : St) (H : Hp) (Q : Bool → Hp → Prop), Inv X pins σ H s → t σ H Q → wpAny (model X.prog X.w) X.A (isTrue e X.env whole) (TP X pins σ Q) X.xe s
theorem PW.pt {X : Cx} {e : Expr} {t : TT} (h : PW X e t) : PT X e t := h _
/-- an argument list (no star), from the left -/
def PA (X : Cx) (es : List Expr) (t : TA) : Prop :=
  ∀ (pos : Pos) (pins : List (Addr × Obj)) (s : Shared) (σ : St) (H : Hp) (Q : List V → Hp → Prop), Inv X pins σ H s → t σ H Q → wpAny (model X.prog X.w) X.A (spliced (backTo pos (starEach es X.env))) (AP X pins σ Q) X.xe s
def PS (X : Cx) (st : Stmt) (t : TS) : Prop :=
  ∀ (pins : List (Addr × Obj)) (s : Shared) (σ : St) (H : Hp) (D : Ends), Inv X pins σ H s → t D σ H → wpAny (model X.prog X.w) X.A (exec st X.env) (SP X pins D) X.xe s
def PSs (X : Cx) (st : List Stmt) (t : TS) : Prop :=
  ∀ (pins : List (Addr × Obj)) (s : Shared) (σ : St) (H : Hp) (D : Ends), Inv X pins σ H s → t D σ H → wpAny (model X.prog X.w) X.A (execs st X.env) (SP X pins D) X.xe s
/-- weaken the end -/
theorem thn {α : Type} {t : Sem α} {Q Q' : α → Shared → Prop} {M : Model} {A : Around} {E : Value → Shared → Prop} {s : Shared} (h : wpAny M A t Q E s) (hQ : ∀ a s, Q a s → Q' a s) : wpAny M A t Q' E s := wpAny_mono h hQ fun _ _ x => x
end L2

namespace L2
open PySem PySem.Spec PyProof.Rows
section
variable {X : Cx}

/-- two expressions in a row -/
theorem bin {a b : Expr} {ta tb : TE} (ha : PE X a ta) (hb : PE X b tb) {pins : List (Addr × Obj)} {s : Shared} {σ : St} {H : Hp} {R : V → V → Hp → Prop} (I : Inv X pins σ H s) (h : ta σ H fun x H1 => tb σ H1 fun y H2 => R x y H2)
    {α : Type} {Q : α → Shared → Prop} {f : Value → Value → Sem α}
    (hf : ∀ v u s2 x y H2, Inv X pins σ H2 s2 → RelV x v → RelV y u → R x y H2 → wpAny (model X.prog X.w) X.A (f v u) Q X.xe s2) :
    wpAny (model X.prog X.w) X.A (eval a X.env) (fun v s₁ => wpAny (model X.prog X.w) X.A (eval b X.env) (fun u s₂ => wpAny (model X.prog X.w) X.A (f v u) Q X.xe s₂) X.xe s₁) X.xe s := by
  refine thn (ha pins s σ H _ I h) fun v s1 ⟨x, H1, I1, r1, q1⟩ => ?_
  refine thn (hb pins s1 σ H1 _ I1 q1) fun u s2 ⟨y, H2, I2, r2, q2⟩ => ?_
  exact hf v u s2 x y H2 I2 r1 r2 q2

/-! ### names and constants -/
def tVar (i : Nat) : TE := fun σ H Q => ∃ v, σ[i]? = some (some v) ∧ Q v H
def tC (v : V) : TE := fun _ H Q => Q v H
theorem pe_var {i : Nat} {x : Str} {pos : Pos} (hN : X.N[i]? = some x) (hv : Vis X.env.scope x) (hd : (x == ("__debug__" : Str)) = false := by decide) (hcd : (x == ("__classdict__" : Str)) = false := by decide) : PE X (.Name x pos) (tVar i) := by
  intro pins s σ H Q I h
  obtain ⟨v, e, h⟩ := h
  obtain ⟨m, hn, hl⟩ := I.loc
  obtain ⟨u, r, l⟩ := hl i x v hN e hv
  have fin : EP X pins σ Q u s := ⟨v, H, I, r, h⟩
  rcases l with ⟨hk, hm⟩ | ⟨hk, c, hc, hcell⟩
  · exact wpAny_Name (wpAny_loadName_local I.ok.kind hk hn hm fin) hd
  · rcases hk with hk | hk
    · exact wpAny_Name (wpAny_loadName_cell I.ok.kind hk hc hcell fin) hd
    · exact wpAny_Name (wpAny_loadName_free I.ok.kind hk hc hcell fin hcd) hd
theorem pe_int {i j pos} : PE X (.Constant (.int i) j pos) (tC (.int i)) := fun _ _ _ H _ I h => wpAny_Constant_int ⟨.int i, H, I.tok _, ⟨_, rfl⟩, h⟩
theorem pe_bl {b j pos} : PE X (.Constant (.bool b) j pos) (tC (.bl b)) := fun _ _ _ H _ I h => Constant_bool ⟨.bl b, H, I, rfl, h⟩
theorem pe_non {j pos} : PE X (.Constant .none j pos) (tC .non) := fun _ _ _ H _ I h => Constant_none ⟨.non, H, I, rfl, h⟩
theorem pe_str {x j pos} : PE X (.Constant (.str x) j pos) (tC (.str x)) := fun _ _ _ H _ I h => Calls.Constant_str ⟨.str x, H, I.tok _, ⟨_, rfl⟩, h⟩

/-- a global name of the def -/
def Gl (X : Cx) (x : Str) : Prop := X.env.kindOf x = some .globalImplicit
theorem ld_glob {E : Value → Shared → Prop} {pins : List (Addr × Obj)} {s : Shared} {σ : St} {H : Hp} {x : Str} {u : Value} {pos : Pos} {Q : Value → Shared → Prop} (I : Inv X pins σ H s) (hg : Gl X x) (hm : X.mg x = some u) (h : Q u s)
    (hd : (x == ("__debug__" : Str)) = false := by decide) : wpAny (model X.prog X.w) X.A (eval (.Name x pos) X.env) Q E s :=
  Calls.Name_function_global I.ok.kind hg (Calls.loadGlobal_global (by rw [I.ok.glob]; exact I.mod.glob.keeps I.bk) hm h) hd
theorem ld_blt {E : Value → Shared → Prop} {pins : List (Addr × Obj)} {s : Shared} {σ : St} {H : Hp} {x : Str} {u : Value} {pos : Pos} {Q : Value → Shared → Prop} (I : Inv X pins σ H s) (hg : Gl X x) (hm : X.mg x = none) (hv : bootBuiltins x = some u) (h : Q u s)
    (hn : x ≠ "__name__" := by decide) (hd : (x == ("__debug__" : Str)) = false := by decide) : wpAny (model X.prog X.w) X.A (eval (.Name x pos) X.env) Q E s := by
  obtain ⟨mb, h1, h2⟩ := I.mod.blt
  exact Calls.Name_function_global I.ok.kind hg (Calls.loadGlobal_builtin (by rw [I.ok.glob]; exact I.mod.glob.keeps I.bk) hm (by rw [I.ok.blt]; exact h1.keeps I.bk) ((h2 x hn).trans hv) h) hd
/-- a module's constant, a class, a function, as a value -/
theorem pe_glob {x : Str} {v : V} {u : Value} {pos : Pos} (hg : Gl X x) (hm : X.mg x = some u) (r : RelV v u) (hd : (x == ("__debug__" : Str)) = false := by decide) : PE X (.Name x pos) (tC v) :=
  fun _ _ _ H _ I h => ld_glob I hg hm ⟨v, H, I, r, h⟩ hd
theorem pe_bltn {x : Str} {v : V} {u : Value} {pos : Pos} (hg : Gl X x) (hm : X.mg x = none) (hv : bootBuiltins x = some u) (r : RelV v u) (hn : x ≠ "__name__" := by decide) (hd : (x == ("__debug__" : Str)) = false := by decide) : PE X (.Name x pos) (tC v) :=
  fun _ _ _ H _ I h => ld_blt I hg hm hv ⟨v, H, I, r, h⟩ hn hd

/-! ### arithmetic -/
/-- two ints -/
def t2I (ta tb : TE) (k : Int → Int → Hp → Prop) : St → Hp → Prop := fun σ H => ta σ H fun x H1 => tb σ H1 fun y H2 => ∃ i j, x = .int i ∧ y = .int j ∧ k i j H2
def tAdd (ta tb : TE) : TE := fun σ H Q => t2I ta tb (fun i j H2 => Q (.int (i + j)) H2) σ H
def tSub (ta tb : TE) : TE := fun σ H Q => t2I ta tb (fun i j H2 => Q (.int (i - j)) H2) σ H
/-- the left factor below 2^64 -/
def tMul (ta tb : TE) : TE := fun σ H Q => t2I ta tb (fun i j H2 => (-(2 ^ 64) < i ∧ i < 2 ^ 64) ∧ Q (.int (i * j)) H2) σ H
variable {a b : Expr} {ta tb : TE} {pos : Pos}
theorem pe_add (ha : PE X a ta) (hb : PE X b tb) : PE X (.BinOp a .Add b pos) (tAdd ta tb) := by
  intro pins s σ H Q I h
  refine wpAny_BinOp (bin ha hb I h fun v u s2 x y H2 I2 rx ry q => ?_)
  obtain ⟨i, j, rfl, rfl, q⟩ := q
  obtain ⟨t, rfl⟩ := rx
  obtain ⟨t', rfl⟩ := ry
  exact add_int ⟨.int _, H2, I2.tok _, ⟨_, rfl⟩, q⟩
theorem pe_sub (ha : PE X a ta) (hb : PE X b tb) : PE X (.BinOp a .Sub b pos) (tSub ta tb) := by
  intro pins s σ H Q I h
  refine wpAny_BinOp (bin ha hb I h fun v u s2 x y H2 I2 rx ry q => ?_)
  obtain ⟨i, j, rfl, rfl, q⟩ := q
  obtain ⟨t, rfl⟩ := rx
  obtain ⟨t', rfl⟩ := ry
  exact sub_int ⟨.int _, H2, I2.tok _, ⟨_, rfl⟩, q⟩
theorem pe_mul (ha : PE X a ta) (hb : PE X b tb) : PE X (.BinOp a .Mult b pos) (tMul ta tb) := by
  intro pins s σ H Q I h
  refine wpAny_BinOp (bin ha hb I h fun v u s2 x y H2 I2 rx ry q => ?_)
  obtain ⟨i, j, rfl, rfl, ⟨q1, q2⟩, q⟩ := q
  obtain ⟨t, rfl⟩ := rx
  obtain ⟨t', rfl⟩ := ry
  exact mul_int ⟨.int _, H2, I2.tok _, ⟨_, rfl⟩, q⟩ (.of_left (intBits_le_64 q1 q2))

/-! ### comparisons -/
def PC (X : Cx) (op : CmpOp) (a b : Expr) (t : TE) : Prop :=
  ∀ (pins : List (Addr × Obj)) (s : Shared) (σ : St) (H : Hp) (Q : VK), Inv X pins σ H s → t σ H Q →
    wpAny (model X.prog X.w) X.A (eval a X.env) (fun v s₁ => wpAny (model X.prog X.w) X.A (eval b X.env) (fun u s₂ => wpAny (model X.prog X.w) X.A (compareOp op v u) (EP X pins σ Q) X.xe s₂) X.xe s₁) X.xe s
theorem nobehind (b : Expr) {op : CmpOp} (h : op ≠ .In) (h2 : op ≠ .NotIn) : behindInMarks op b = false := by
  have e1 : (op == CmpOp.In) = false := by cases op <;> first | rfl | exact absurd rfl h
  have e2 : (op == CmpOp.NotIn) = false := by cases op <;> first | rfl | exact absurd rfl h2
  cases b <;> simp [behindInMarks, e1, e2]
def tCmp (p : Int → Int → Bool) (ta tb : TE) : TE := fun σ H Q => t2I ta tb (fun i j H2 => Q (.bl (p i j)) H2) σ H
abbrev tLt : TE → TE → TE := tCmp fun i j => decide (i < j)
abbrev tLe : TE → TE → TE := tCmp fun i j => decide (i ≤ j)
abbrev tGt : TE → TE → TE := tCmp fun i j => decide (j < i)
abbrev tGe : TE → TE → TE := tCmp fun i j => decide (j ≤ i)
abbrev tEqI : TE → TE → TE := tCmp fun i j => decide (i = j)
abbrev tNeI : TE → TE → TE := tCmp fun i j => !decide (i = j)
/-- a comparison of two ints, by its rule -/
theorem pc_int {op : CmpOp} {p : Int → Int → Bool} (ha : PE X a ta) (hb : PE X b tb)
    (rule : ∀ (i j : Int) (t u : Tok) (Q : Value → Shared → Prop) (s : Shared), Q (.bool (p i j)) s → wpAny (model X.prog X.w) X.A (compareOp op (.int i t) (.int j u)) Q X.xe s) : PC X op a b (tCmp p ta tb) := by
  intro pins s σ H Q I h
  refine bin ha hb I h fun v u s2 x y H2 I2 rx ry q => ?_
  obtain ⟨i, j, rfl, rfl, q⟩ := q
  obtain ⟨t, rfl⟩ := rx
  obtain ⟨t', rfl⟩ := ry
  exact rule i j t t' _ s2 ⟨.bl _, H2, I2, rfl, q⟩
theorem pc_lt (ha : PE X a ta) (hb : PE X b tb) : PC X .Lt a b (tLt ta tb) := pc_int ha hb fun _ _ _ _ _ _ h => lt_int h
theorem pc_le (ha : PE X a ta) (hb : PE X b tb) : PC X .LtE a b (tLe ta tb) := pc_int ha hb fun _ _ _ _ _ _ h => le_int h
theorem pc_gt (ha : PE X a ta) (hb : PE X b tb) : PC X .Gt a b (tGt ta tb) := pc_int ha hb fun _ _ _ _ _ _ h => gt_int h
theorem pc_ge (ha : PE X a ta) (hb : PE X b tb) : PC X .GtE a b (tGe ta tb) := pc_int ha hb fun _ _ _ _ _ _ h => ge_int h
theorem pc_eqI (ha : PE X a ta) (hb : PE X b tb) : PC X .Eq a b (tEqI ta tb) := pc_int ha hb fun _ _ _ _ _ _ h => eq_int (by rw [Bool.beq_eq_decide_eq]; exact h)
theorem pc_neI (ha : PE X a ta) (hb : PE X b tb) : PC X .NotEq a b (tNeI ta tb) := pc_int ha hb fun _ _ _ _ _ _ h => ne_int (by rw [bne, Bool.beq_eq_decide_eq]; exact h)
/-- is None -/
def tIsN (ta : TE) : TE := fun σ H Q => ta σ H fun x H1 => Q (.bl (decide (x = .non))) H1
def tNotN (ta : TE) : TE := fun σ H Q => ta σ H fun x H1 => Q (.bl (!decide (x = .non))) H1
theorem RelV.none_iff {x : V} {v : Value} (r : RelV x v) : (v == Value.none) = decide (x = .non) := by
  cases x with
  | non => cases r; rfl
  | bl _ => cases r; rfl
  | int _ => obtain ⟨t, rfl⟩ := r; rfl
  | str _ => obtain ⟨t, rfl⟩ := r; rfl
  | byt _ => obtain ⟨t, rfl⟩ := r; rfl
  | flt _ => obtain ⟨t, rfl⟩ := r; rfl
  | ref _ => cases r; rfl
  | ty _ => cases r; rfl
theorem pc_isN {j pos'} (ha : PE X a ta) : PC X .Is a (.Constant .none j pos') (tIsN ta) := by
  intro pins s σ H Q I h
  refine thn (ha pins s σ H _ I h) fun v s1 ⟨x, H1, I1, r1, q1⟩ => ?_
  exact Constant_none (is_none_gen ⟨.bl _, H1, I1, by rw [r1.none_iff]; rfl, q1⟩)
theorem pc_notN {j pos'} (ha : PE X a ta) : PC X .IsNot a (.Constant .none j pos') (tNotN ta) := by
  intro pins s σ H Q I h
  refine thn (ha pins s σ H _ I h) fun v s1 ⟨x, H1, I1, r1, q1⟩ => ?_
  exact Constant_none (isnot_none_gen ⟨.bl _, H1, I1, by rw [r1.none_iff]; rfl, q1⟩)
/-- a comparison as a value, as a test -/
def tB (t : TE) : TT := fun σ H Q => t σ H fun x H1 => ∃ c, x = .bl c ∧ Q c H1
theorem pe_cmp {op : CmpOp} {t : TE} (h : PC X op a b t) (h1 : behindInMarks op b = false := by first | exact nobehind _ (by decide) (by decide) | rfl) : PE X (.Compare a [op] [b] pos) t := fun pins s σ H Q I hw => wpAny_Compare1 (h pins s σ H Q I hw) h1
theorem pt_cmp {op : CmpOp} {t : TE} (h : PC X op a b t) (h1 : behindInMarks op b = false := by first | exact nobehind _ (by decide) (by decide) | rfl) : PT X (.Compare a [op] [b] pos) (tB t) := by
  intro pins s σ H Q I hw
  refine wpAny_isTrue_Compare1 (thn (h pins s σ H _ I hw) fun v s1 h1 => thn h1 fun u s2 h2 => thn h2 fun c s3 ⟨x, H1, I1, r1, q1⟩ => ?_) h1
  obtain ⟨d, rfl, q⟩ := q1
  cases r1
  exact wpAny_truthy_bool ⟨H1, I1, q⟩
/-- an expression whose value is a bool, as a test -/
theorem pt_val {e : Expr} {t : TE} (h : PE X e t) (he : ∀ whole, isTrue e X.env whole = (do let v ← whole; standAt e.pos; holding [v] (truthy v)) := by intro _; rfl) : PT X e (tB t) := by
  intro pins s σ H Q I hw
  refine isTrue_plain (thn (h pins s σ H _ I hw) fun v s1 ⟨x, H1, I1, r1, q1⟩ => ?_) (he _)
  obtain ⟨d, rfl, q⟩ := q1
  cases r1
  exact wpAny_truthy_bool ⟨H1, I1, q⟩

/-! ### and, or, not -/
variable {tA tB' : TT} {rest : List Expr}
def tAnd (t u : TT) : TT := fun σ H Q => t σ H fun c H1 => if c = true then u σ H1 Q else Q false H1
def tOr (t u : TT) : TT := fun σ H Q => t σ H fun c H1 => if c = true then Q true H1 else u σ H1 Q
def tNot (t : TT) : TT := fun σ H Q => t σ H fun c H1 => Q (!c) H1
theorem pw_and1 (ha : PT X a tA) : PW X (.BoolOp .And [a] pos) tA := by
  intro wh pins s σ H Q I h
  refine isTrue_and (thn (ha pins s σ H Q I h) fun c s1 e => ?_)
  cases c with
  | true => exact isTrue_and_nil e
  | false => exact e
theorem pw_or1 (ha : PT X a tA) : PW X (.BoolOp .Or [a] pos) tA := by
  intro wh pins s σ H Q I h
  refine isTrue_or (thn (ha pins s σ H Q I h) fun c s1 e => ?_)
  cases c with
  | false => exact isTrue_or_nil e
  | true => exact e
theorem pw_and (ha : PT X a tA) (hb : PW X (.BoolOp .And (b :: rest) pos) tB') : PW X (.BoolOp .And (a :: b :: rest) pos) (tAnd tA tB') := by
  intro wh pins s σ H Q I h
  refine isTrue_and (thn (ha pins s σ H _ I h) fun c s1 ⟨H1, I1, q1⟩ => ?_)
  cases c with
  | true => exact hb wh pins s1 σ H1 Q I1 q1
  | false => exact ⟨H1, I1, q1⟩
theorem pw_or (ha : PT X a tA) (hb : PW X (.BoolOp .Or (b :: rest) pos) tB') : PW X (.BoolOp .Or (a :: b :: rest) pos) (tOr tA tB') := by
  intro wh pins s σ H Q I h
  refine isTrue_or (thn (ha pins s σ H _ I h) fun c s1 ⟨H1, I1, q1⟩ => ?_)
  cases c with
  | true => exact ⟨H1, I1, q1⟩
  | false => exact hb wh pins s1 σ H1 Q I1 q1
theorem pt_not (ha : PT X a tA) : PT X (.UnaryOp .Not a pos) (tNot tA) := by
  intro pins s σ H Q I h
  exact isTrue_not (ha pins s σ H (fun c H1 => Q (!c) H1) I h)
/-- .. as values (bools) -/
def tAndV (ta tb : TE) : TE := fun σ H Q => ta σ H fun x H1 => ∃ c, x = .bl c ∧ if c = true then tb σ H1 Q else Q (.bl false) H1
def tOrV (ta tb : TE) : TE := fun σ H Q => ta σ H fun x H1 => ∃ c, x = .bl c ∧ if c = true then Q (.bl true) H1 else tb σ H1 Q
def tNotV (ta : TE) : TE := fun σ H Q => ta σ H fun x H1 => ∃ c, x = .bl c ∧ Q (.bl (!c)) H1
theorem pe_one {op} {t : TE} (h : PE X a t) : PE X (.BoolOp op [a] pos) t := fun pins s σ H Q I hw => BoolOp_one (h pins s σ H Q I hw)
theorem pe_and (ha : PE X a ta) (hb : PE X (.BoolOp .And (b :: rest) pos) tb) : PE X (.BoolOp .And (a :: b :: rest) pos) (tAndV ta tb) := by
  intro pins s σ H Q I h
  refine BoolOp_and (thn (ha pins s σ H _ I h) fun v s1 ⟨x, H1, I1, r1, q1⟩ => ?_)
  obtain ⟨c, rfl, q1⟩ := q1
  cases r1
  refine wpAny_truthy_bool ?_
  cases c with
  | true => exact hb pins s1 σ H1 Q I1 q1
  | false => exact ⟨.bl false, H1, I1, rfl, q1⟩
theorem pe_or (ha : PE X a ta) (hb : PE X (.BoolOp .Or (b :: rest) pos) tb) : PE X (.BoolOp .Or (a :: b :: rest) pos) (tOrV ta tb) := by
  intro pins s σ H Q I h
  refine BoolOp_or (thn (ha pins s σ H _ I h) fun v s1 ⟨x, H1, I1, r1, q1⟩ => ?_)
  obtain ⟨c, rfl, q1⟩ := q1
  cases r1
  refine wpAny_truthy_bool ?_
  cases c with
  | false => exact hb pins s1 σ H1 Q I1 q1
  | true => exact ⟨.bl true, H1, I1, rfl, q1⟩
theorem pe_not (ha : PE X a ta) : PE X (.UnaryOp .Not a pos) (tNotV ta) := by
  intro pins s σ H Q I h
  refine UnaryOp_ (thn (ha pins s σ H _ I h) fun v s1 ⟨x, H1, I1, r1, q1⟩ => ?_)
  obtain ⟨c, rfl, q1⟩ := q1
  cases r1
  exact not_of (wpAny_truthy_bool ⟨.bl (!c), H1, I1, rfl, q1⟩)
/-- a if t else b -/
def tIf (t : TT) (ta tb : TE) : TE := fun σ H Q => t σ H fun c H1 => if c = true then ta σ H1 Q else tb σ H1 Q
theorem pe_ifExp {c : Expr} (hc : PT X c tA) (ha : PE X a ta) (hb : PE X b tb) : PE X (.IfExp c a b pos) (tIf tA ta tb) := by
  intro pins s σ H Q I h
  refine wpAny_IfExp (thn (hc pins s σ H _ I h) fun d s1 ⟨H1, I1, q1⟩ => ?_)
  cases d with
  | true => exact ha pins s1 σ H1 Q I1 q1
  | false => exact hb pins s1 σ H1 Q I1 q1
end
end L2

namespace L2
open PySem PySem.Spec PyProof.Rows

/-! ### a list, a tuple that is read: tracked, frozen, or an object of the module -/
def SqL (K : PySem.W.Frag) (H : Hp) (a : Addr) (xs : List V) : Prop :=
  Rd H a (.lst xs) ∨
    ∃ (o : Obj) (its : Array Value) (n : Nat), K.lookup a = some o ∧ o.cls = .type "list" ∧ o.dict = none ∧ o.data = .seq its n ∧ its.size ≤ sizeLine ∧ Vals xs its.toList
def SqT (K : PySem.W.Frag) (H : Hp) (a : Addr) (xs : List V) : Prop :=
  Rd H a (.tup xs) ∨
    ∃ (o : Obj) (its : Array Value) (n : Nat), K.lookup a = some o ∧ o.cls = .type "tuple" ∧ o.data = .seq its n ∧ its.size ≤ sizeLine ∧ Vals xs its.toList
def absV : Value → Option V
  | .none => some .non
  | .bool b => some (.bl b)
  | .int i _ => some (.int i)
  | .str x _ => some (.str x)
  | .bytes b _ => some (.byt b)
  | .float b _ => some (.flt b)
  | .ref a => some (.ref a)
  | .type n => some (.ty n)
  | _ => none
theorem RelV.abs {x : V} {u : Value} (r : RelV x u) : absV u = some x := by
  cases x with
  | non => cases r; rfl
  | bl _ => cases r; rfl
  | int _ => obtain ⟨t, rfl⟩ := r; rfl
  | str _ => obtain ⟨t, rfl⟩ := r; rfl
  | byt _ => obtain ⟨t, rfl⟩ := r; rfl
  | flt _ => obtain ⟨t, rfl⟩ := r; rfl
  | ref _ => cases r; rfl
  | ty _ => cases r; rfl
theorem RelV.inj {x y : V} {u : Value} (r : RelV x u) (q : RelV y u) : x = y := Option.some.inj (r.abs.symm.trans q.abs)
theorem Vals.inj : ∀ {xs ys : List V} {us : List Value}, Vals xs us → Vals ys us → xs = ys
  | _, _, _, .nil, .nil => rfl
  | _, _, _, .cons r t, .cons r' t' => by rw [r.inj r', Vals.inj t t']
section
variable {X : Cx} {pins : List (Addr × Obj)} {σ : St} {H : Hp} {s : Shared} {a : Addr} {xs ys : List V}
theorem SqL.of {K : PySem.W.Frag} (h : H a = some (.lst xs)) : SqL K H a xs := .inl (.inl h)
theorem SqT.of {K : PySem.W.Frag} (h : H a = some (.tup xs)) : SqT K H a xs := .inl (.inl h)
theorem Inv.list (I : Inv X pins σ H s) (h : SqL X.K H a xs) : ∃ its : List Value, Vals xs its ∧ PlainL s.heap a its.toArray ∧ xs.length ≤ sizeLine := by
  rcases h with h | ⟨o, its, n, hk, hc, hd, hs, hz, r⟩
  · obtain ⟨z, its, n, r, e⟩ := h.ok I.hok
    exact ⟨its, r, ⟨_, n, e, rfl, rfl, rfl⟩, z⟩
  · refine ⟨its.toList, r, ⟨o, n, I.kIn a o hk, hc, hd, by simpa using hs⟩, ?_⟩
    have e := r.length
    simp only [Array.length_toList] at e
    omega
theorem Inv.tuple (I : Inv X pins σ H s) (h : SqT X.K H a xs) : ∃ its : List Value, Vals xs its ∧ IsTup s.heap a its.toArray ∧ xs.length ≤ sizeLine := by
  rcases h with h | ⟨o, its, n, hk, hc, hs, hz, r⟩
  · obtain ⟨z, its, r, p⟩ := h.ok I.hok
    exact ⟨its, r, p, z⟩
  · refine ⟨its.toList, r, ⟨o, I.kIn a o hk, hc, n, by simpa using hs⟩, ?_⟩
    have e := r.length
    simp only [Array.length_toList] at e
    omega
theorem Inv.list_inj (I : Inv X pins σ H s) (h : SqL X.K H a xs) (h' : SqL X.K H a ys) : xs = ys := by
  obtain ⟨its, r, ⟨o, n, e, _, _, d⟩, _⟩ := I.list h
  obtain ⟨its', r', ⟨o', n', e', _, _, d'⟩, _⟩ := I.list h'
  rw [e] at e'; cases e'
  rw [d] at d'
  injection d' with d1 _
  have : its = its' := by simpa using congrArg Array.toList d1
  subst this
  exact r.inj r'
theorem Inv.tuple_inj (I : Inv X pins σ H s) (h : SqT X.K H a xs) (h' : SqT X.K H a ys) : xs = ys := by
  obtain ⟨its, r, ⟨o, e, _, n, d⟩, _⟩ := I.tuple h
  obtain ⟨its', r', ⟨o', e', _, n', d'⟩, _⟩ := I.tuple h'
  rw [e] at e'; cases e'
  rw [d] at d'
  injection d' with d1 _
  have : its = its' := by simpa using congrArg Array.toList d1
  subst this
  exact r.inj r'
end

/-! ### another wish about exceptions -/
abbrev Cx.wish (X : Cx) (E : Value → Shared → Prop) : Cx := { X with xe := E }
/-- no exception leaves -/
abbrev Cx.nox (X : Cx) : Cx := X.wish fun _ _ => False
theorem Cx.Ok.wish {X : Cx} (ok : X.Ok) (E : Value → Shared → Prop) : (X.wish E).Ok :=
  ⟨ok.mod, ok.kind, ok.glob, ok.blt, ok.above, ok.inj, ok.has, ok.cab, ok.hd, ok.frames, ok.stk, ok.exf, ok.bs, ok.bsz, ok.noex, ok.exfs, ok.funs, ok.frf⟩
theorem Cx.Ok.unwish {X : Cx} {E : Value → Shared → Prop} (ok : (X.wish E).Ok) : X.Ok :=
  ⟨ok.mod, ok.kind, ok.glob, ok.blt, ok.above, ok.inj, ok.has, ok.cab, ok.hd, ok.frames, ok.stk, ok.exf, ok.bs, ok.bsz, ok.noex, ok.exfs, ok.funs, ok.frf⟩
section
variable {X : Cx} {pins : List (Addr × Obj)} {σ : St} {H : Hp} {s : Shared} {E : Value → Shared → Prop}
theorem Inv.wish (I : Inv X pins σ H s) (E : Value → Shared → Prop) : Inv (X.wish E) pins σ H s := ⟨I.ok.wish E, I.os, I.bare, I.base, I.loc, I.cell, I.free, I.freeC, I.pin, I.hok, I.len⟩
theorem Inv.unwish (I : Inv (X.wish E) pins σ H s) : Inv X pins σ H s := ⟨I.ok.unwish, I.os, I.bare, I.base, I.loc, I.cell, I.free, I.freeC, I.pin, I.hok, I.len⟩
theorem SP.unwish {D : Ends} {f : Flow} {s' : Shared} (h : SP (X.wish E) pins D f s') : SP X pins D f s' := by
  cases f with
  | next => obtain ⟨σ', H', I, q⟩ := h; exact ⟨σ', H', I.unwish, q⟩
  | brk => obtain ⟨σ', H', I, q⟩ := h; exact ⟨σ', H', I.unwish, q⟩
  | cont => obtain ⟨σ', H', I, q⟩ := h; exact ⟨σ', H', I.unwish, q⟩
  | ret u => obtain ⟨v, σ', H', I, r, q⟩ := h; exact ⟨v, σ', H', I.unwish, r, q⟩
theorem PE.nox {e : Expr} {t : TE} (h : PE X.nox e t) : PE X e t := fun pins s σ H Q I hw =>
  wpAny_mono (h pins s σ H Q (I.wish _) hw) (fun _ _ ⟨v, H', I', r, q⟩ => ⟨v, H', I'.unwish, r, q⟩) fun _ _ z => False.elim z
theorem PT.nox {e : Expr} {t : TT} (h : PT X.nox e t) : PT X e t := fun pins s σ H Q I hw =>
  wpAny_mono (h pins s σ H Q (I.wish _) hw) (fun _ _ ⟨H', I', q⟩ => ⟨H', I'.unwish, q⟩) fun _ _ z => False.elim z
theorem PSs.nox {st : List Stmt} {t : TS} (h : PSs X.nox st t) : PSs X st t := fun pins s σ H D I hw =>
  wpAny_mono (h pins s σ H D (I.wish _) hw) (fun _ _ q => q.unwish) fun _ _ z => False.elim z
end

/-! ### blocks and small statements -/
section
variable {X : Cx} {st : Stmt} {rest : List Stmt} {t u : TS} {e : Expr} {te : TE} {pos : Pos}
def tNext : TS := fun D σ H => D.nx σ H
def tSeq (t u : TS) : TS := fun D σ H => t { D with nx := u D } σ H
theorem pss_nil : PSs X [] tNext := fun _ _ σ H _ I h => wpAny_execs_nil ⟨σ, H, I, h⟩
theorem pss_cons (h1 : PS X st t) (h2 : PSs X rest u) : PSs X (st :: rest) (tSeq t u) := by
  intro pins s σ H D I h
  refine wpAny_execs_cons (thn (h1 pins s σ H { D with nx := u D } I h) fun f s1 q => ?_)
  cases f with
  | next =>
    obtain ⟨σ', H', I', q⟩ := q
    exact h2 pins s1 σ' H' D I' q
  | ret v => exact q
  | brk => exact q
  | cont => exact q
theorem pss_one (h1 : PS X st t) : PSs X [st] t := by
  intro pins s σ H D I h
  refine wpAny_execs_cons (thn (h1 pins s σ H D I h) fun f s1 q => ?_)
  cases f with
  | next => exact wpAny_execs_nil q
  | ret v => exact q
  | brk => exact q
  | cont => exact q
def tBreak : TS := fun D σ H => D.bk σ H
def tCont : TS := fun D σ H => D.ct σ H
theorem ps_pass : PS X (.Pass pos) tNext := fun _ _ σ H _ I h => wpAny_Pass ⟨σ, H, I, h⟩
theorem ps_break : PS X (.Break pos) tBreak := fun _ _ σ H _ I h => wpAny_Break ⟨σ, H, I, h⟩
theorem ps_continue : PS X (.Continue pos) tCont := fun _ _ σ H _ I h => wpAny_Continue ⟨σ, H, I, h⟩
/-- in a def's body nothing is shown -/
theorem Inv.quiet {pins : List (Addr × Obj)} {σ : St} {H : Hp} {s : Shared} (I : Inv X pins σ H s) : interactive X.env = false := by simp [interactive, I.ok.kind]
/-- a docstring -/
theorem ps_doc {x j pos pos'} : PS X (.Expr (.Constant (.str x) j pos) pos') tNext := fun _ s σ H _ I h => wpAny_Expr (Calls.Constant_str (show SP X _ _ .next { s with toks := s.toks + 1 } from ⟨σ, H, I.tok _, h⟩)) I.quiet
/-- an expression whose value is dropped -/
def tDrop (te : TE) : TS := fun D σ H => te σ H fun _ H1 => D.nx σ H1
theorem ps_expr (he : PE X e te) (hs : swapsWith e none pos.line X.env = pure false := by rfl) : PS X (.Expr e pos) (tDrop te) := by
  intro pins s σ H D I h
  exact wpAny_Expr_any (thn (he pins s σ H _ I h) fun v s1 ⟨x, H1, I1, r1, q1⟩ => ⟨σ, H1, I1, q1⟩) I.quiet hs
def tRet (te : TE) : TS := fun D σ H => te σ H D.rt
theorem ps_ret (he : PE X e te) : PS X (.Return (some e) pos) (tRet te) := by
  intro pins s σ H D I h
  exact wpAny_Return_some (thn (he pins s σ H _ I h) fun v s1 ⟨x, H1, I1, r1, q1⟩ => ⟨x, σ, H1, I1, r1, q1⟩)
def tRetN : TS := fun D _ H => D.rt .non H
theorem ps_retN : PS X (.Return none pos) tRetN := fun _ _ σ H _ I h => wpAny_Return_none ⟨.non, σ, H, I, rfl, h⟩
def tIfS (c : TT) (t u : TS) : TS := fun D σ H => c σ H fun b H1 => if b = true then t D σ H1 else u D σ H1
theorem ps_if {c : Expr} {a b : List Stmt} {tc : TT} (hc : PT X c tc) (ha : PSs X a t) (hb : PSs X b u) : PS X (.If c a b pos) (tIfS tc t u) := by
  intro pins s σ H D I h
  refine wpAny_If (thn (hc pins s σ H _ I h) fun d s1 ⟨H1, I1, q1⟩ => ?_)
  cases d with
  | true => exact ha pins s1 σ H1 D I1 q1
  | false => exact hb pins s1 σ H1 D I1 q1
/-- code that the proof never comes to -/
def tNever : TS := fun _ _ _ => False
theorem ps_never : PS X st tNever := fun _ _ _ _ _ _ h => h.elim
theorem pss_never {sts : List Stmt} : PSs X sts tNever := fun _ _ _ _ _ _ h => h.elim
end

/-! ### targets -/
abbrev TG := V → St → Hp → (St → Hp → Prop) → Prop
abbrev TGs := List V → St → Hp → (St → Hp → Prop) → Prop
def PG (X : Cx) (target : Expr) (t : TG) : Prop :=
  ∀ (pins : List (Addr × Obj)) (s : Shared) (σ : St) (H : Hp) (v : V) (u : Value) (Q : St → Hp → Prop), Inv X pins σ H s → RelV v u → t v σ H Q →
    wpAny (model X.prog X.w) X.A (assign target X.env u) (fun _ s' => ∃ σ' H', Inv X pins σ' H' s' ∧ Q σ' H') X.xe s
/-- several targets, one after another -/
def PGs (X : Cx) (ts : List Expr) (t : TGs) : Prop :=
  ∀ (pins : List (Addr × Obj)) (s : Shared) (σ : St) (H : Hp) (vs : List V) (us : List Value) (Q : St → Hp → Prop), Inv X pins σ H s → Vals vs us → t vs σ H Q →
    wpAny (model X.prog X.w) X.A (assignInOrder ((assignEach ts X.env).map (·.2)) us) (fun _ s' => ∃ σ' H', Inv X pins σ' H' s' ∧ Q σ' H') X.xe s
/-- o[i] = v, by values -/
abbrev TSet := V → V → V → Hp → (Hp → Prop) → Prop
def PSet (X : Cx) (t : TSet) : Prop :=
  ∀ (pins : List (Addr × Obj)) (s : Shared) (σ : St) (H : Hp) (o i v : V) (ov iv u : Value) (Q : Hp → Prop), Inv X pins σ H s → RelV o ov → RelV i iv → RelV v u → t o i v H Q →
    wpAny (model X.prog X.w) X.A (setItem ov iv u) (fun _ s' => ∃ H', Inv X pins σ H' s' ∧ Q H') X.xe s
/-- a op= b, by values -/
abbrev TIp := V → V → Hp → VK → Prop
def PIp (X : Cx) (op : Operator) (t : TIp) : Prop :=
  ∀ (pins : List (Addr × Obj)) (s : Shared) (σ : St) (H : Hp) (x y : V) (v u : Value) (Q : VK), Inv X pins σ H s → RelV x v → RelV y u → t x y H Q →
    wpAny (model X.prog X.w) X.A (inplaceOp op v u) (EP X pins σ Q) X.xe s
section
variable {X : Cx} {pos : Pos}
def gName (i : Nat) : TG := fun v σ H Q => Q (σ.set i (some v)) H
theorem pg_name {i : Nat} {x : Str} (hN : X.N.Nodup) (hi : X.N[i]? = some x) (hx : Loc X.env.scope x) (hf : X.fn x = true ∨ X.env.scope.names.lookup x = some .local := by first | exact .inl rfl | exact .inr rfl | assumption) : PG X (.Name x pos) (gName i) := by
  intro pins s σ H v u Q I r h
  exact wpAny_assign_Name (store_ok I hN hi hx r (fun s' I' => ⟨_, H, I', h⟩) hf)
def gNil : TGs := fun vs σ H Q => vs = [] ∧ Q σ H
def gCons (t : TG) (u : TGs) : TGs := fun vs σ H Q => ∃ v r, vs = v :: r ∧ t v σ H fun σ' H' => u r σ' H' Q
theorem pgs_nil : PGs X [] gNil := by
  intro pins s σ H vs us Q I r h
  obtain ⟨e, h⟩ := h
  subst e
  cases r
  exact assignInOrder_nil ⟨σ, H, I, h⟩
theorem pgs_cons {e : Expr} {es : List Expr} {t : TG} {u : TGs} (h1 : PG X e t) (h2 : PGs X es u)
    (hs : (assignEach (e :: es) X.env).map (·.2) = assign e X.env :: (assignEach es X.env).map (·.2) := by rfl) : PGs X (e :: es) (gCons t u) := by
  intro pins s σ H vs us Q I r h
  obtain ⟨v, vr, e1, h⟩ := h
  subst e1
  cases r with
  | cons r rr =>
    rw [hs]
    refine assignInOrder_cons (thn (h1 pins s σ H _ _ _ I r h) fun _ s1 ⟨σ1, H1, I1, q1⟩ => ?_)
    exact h2 pins s1 σ1 H1 _ _ Q I1 rr q1
/-- (a, b, ..) = a tuple of that length -/
def gTup (K : PySem.W.Frag) (n : Nat) (t : TGs) : TG := fun v σ H Q => ∃ a xs, v = .ref a ∧ SqT K H a xs ∧ xs.length = n ∧ t xs σ H Q
theorem pg_tup {es : List Expr} {k : Nat} {t : TGs} {n : Nat} (hc : X.calm = true) (h : PGs X es t)
    (hn : (assignEach es X.env).length = n := by rfl) (hst : (assignEach es X.env).findIdx? (·.1) = none := by rfl) : PG X (.Tuple es k pos) (gTup X.K n t) := by
  intro pins s σ H v u Q I r hw
  obtain ⟨a, xs, e1, hq, hl, hw⟩ := hw
  subst e1
  cases r
  obtain ⟨its, rv, ht, hz⟩ := I.tuple hq
  refine assign_Tuple_tuple (I.ok.hd hc) ht (by simp [hn, ← hl, rv.length]) hst fun h' hx => ?_
  have I1 : Inv X pins σ H { s with heap := h' } := I.kept (t' := s.toks) fun b o e => hx b o (Nat.ne_of_lt (Heap.lt_size e)) e
  exact h pins _ σ H xs _ Q I1 (by simpa using rv) hw
/-- o[i] = .. -/
def gSub (to ti : TE) (t : TSet) : TG := fun v σ H Q => to σ H fun o H1 => ti σ H1 fun i H2 => t o i v H2 fun H3 => Q σ H3
theorem pg_sub {o i : Expr} {to ti : TE} {t : TSet} (ho : PE X o to) (hi : PE X i ti) (hs : PSet X t)
    (ha : ∀ v, assign (.Subscript o i pos) X.env v = (do
      let ov ← holding [v] (eval o X.env)
      let iv ← holding [v, ov] (eval i X.env)
      standAt pos
      holding [v, ov, iv] (setItem ov iv v)
      release [v, ov, iv] []) := by intro _; rfl) : PG X (.Subscript o i pos) (gSub to ti t) := by
  intro pins s σ H v u Q I r h
  rw [ha]
  refine wpAny_bind (wpAny_holding (thn (ho pins s σ H _ I h) fun ov s1 ⟨x, H1, I1, r1, q1⟩ => ?_))
  refine wpAny_bind (wpAny_holding (thn (hi pins s1 σ H1 _ I1 q1) fun iv s2 ⟨y, H2, I2, r2, q2⟩ => ?_))
  refine wpAny_bind (wpAny_standAt (wpAny_bind (wpAny_holding (thn (hs pins s2 σ H2 x y v ov iv u _ I2 r1 r2 r q2) fun _ s3 ⟨H3, I3, q3⟩ => ?_))))
  exact wpAny_release ⟨σ, H3, I3, q3⟩
/-- target = value -/
def tAsg (te : TE) (g : TG) : TS := fun D σ H => te σ H fun x H1 => g x σ H1 D.nx
theorem ps_asg {tg e : Expr} {te : TE} {g : TG} (he : PE X e te) (hg : PG X tg g) (hs : swapsWithSole [tg] e pos.line X.env = pure false := by rfl) (hw : swappedStores [tg] e X.env = pure none := by rfl)
    (h1 : (assignEach [tg] X.env).map (·.2) = [assign tg X.env] := by rfl) : PS X (.Assign [tg] e pos) (tAsg te g) := by
  intro pins s σ H D I h
  refine wpAny_Assign_stores (thn (he pins s σ H _ I h) fun v s1 ⟨x, H1, I1, r1, q1⟩ => ?_) hs hw
  rw [h1]
  exact thn (hg pins s1 σ H1 x v _ I1 r1 q1) fun _ s2 q => q
/-- name = value -/
theorem ps_set {i : Nat} {x : Str} {e : Expr} {te : TE} {pos' : Pos} (hN : X.N.Nodup) (hi : X.N[i]? = some x) (hx : Loc X.env.scope x) (he : PE X e te) (hs : swapsWith e (some (.Name x pos')) pos.line X.env = pure false := by rfl) (hf : X.fn x = true ∨ X.env.scope.names.lookup x = some .local := by first | exact .inl rfl | exact .inr rfl | assumption) :
    PS X (.Assign [.Name x pos'] e pos) (tAsg te (gName i)) := by
  intro pins s σ H D I h
  refine wpAny_Assign_Name (thn (he pins s σ H _ I h) fun v s1 ⟨y, H1, I1, r1, q1⟩ => ?_) hs
  exact store_ok I1 hN hi hx r1 (fun s2 I2 => ⟨_, H1, I2, q1⟩) hf
/-- a, b = x, y with plain local names: stored from the right; the pair itself is not tracked (the opening rows as in PyProof/Rows/TupAssign.lean:23) -/
def tPar (i j : Nat) (ta : TA) : TS := fun D σ H => ta σ H fun vs H1 => ∃ v w, vs = [v, w] ∧ D.nx ((σ.set i (some v)).set j (some w)) H1
theorem ps_par {i j : Nat} {x y : Str} {a b : Expr} {ta : TA} {px py pt : Pos} {kt k2 pt2} (hc : X.calm = true) (hN : X.N.Nodup) (hi : X.N[i]? = some x) (hj : X.N[j]? = some y) (hij : i ≠ j)
    (hx : X.env.scope.names.lookup x = some .local) (hy : X.env.scope.names.lookup y = some .local) (ha : PA X [a, b] ta)
    (hw : swappedStores [.Tuple [.Name x px, .Name y py] kt pt] (.Tuple [a, b] k2 pt2) X.env = pure (some [x, y]))
    (hs : swapsWithSole [.Tuple [.Name x px, .Name y py] kt pt] (.Tuple [a, b] k2 pt2) pos.line X.env = pure false := by rfl) :
    PS X (.Assign [.Tuple [.Name x px, .Name y py] kt pt] (.Tuple [a, b] k2 pt2) pos) (tPar i j ta) := by
  intro pins s σ H D I h
  rw [exec_Assign_arm]
  refine wpAny_bind (wpAny_standAt ?_)
  rw [hs]
  refine wpAny_bind (wpAny_pure ?_)
  rw [if_neg (by decide)]
  refine wpAny_bind (Tuple_ (thn (ha _ pins s σ H _ I h) fun us s1 ⟨vs, H1, I1, r1, q1⟩ => ?_))
  obtain ⟨v, w, e1, q1⟩ := q1
  subst e1
  obtain ⟨u1, u2, rfl, rv, rw'⟩ : ∃ u1 u2, us = [u1, u2] ∧ RelV v u1 ∧ RelV w u2 := by
    cases r1 with
    | cons p q =>
      cases q with
      | cons p' q' =>
        cases q'
        exact ⟨_, _, rfl, p, p'⟩
  refine wpAny_newObj_type ?_ (by show 2 ≤ sizeLine; decide)
  have I2 : Inv X pins σ H1 { s1 with heap := s1.heap.push { cls := .type "tuple", data := .seq [u1, u2].toArray } } := I1.kept (t' := s1.toks) fun b o e => Heap.get?_push_of_some _ e
  rw [hw]
  refine wpAny_bind (wpAny_pure ?_)
  show wpAny (model X.prog X.w) X.A (do rule "assign.swapped-stores"; let items ← unpackItems (.ref s1.heap.objs.size) 2 none; assignInOrder [fun v => bindName X.env y v, fun v => bindName X.env x v] items.reverse; pure Flow.next) _ _ _
  refine wpAny_bind (wpAny_rule (wpAny_bind (unpackItems_tuple (items := #[u1, u2]) (I.ok.hd hc) (IsTup.new s1.heap _) fun h' hx' => ?_)))
  have I3 := I2.kept (h' := h') (t' := s1.toks) fun b o e => hx' b o (Nat.ne_of_lt (Heap.lt_size e)) e
  show wpAny _ _ (assignInOrder [fun v => bindName X.env y v, fun v => bindName X.env x v] [u2, u1] >>= fun _ => pure Flow.next) _ _ _
  refine wpAny_bind (assignInOrder_cons (wpAny_bindName (store_ok I3 hN hj (.inl hy) rw' (fun s2 I4 => ?_) (.inr hy))))
  refine assignInOrder_cons (wpAny_bindName (store_ok I4 hN hi (.inl hx) rv (fun s3 I5 => assignInOrder_nil (wpAny_pure ?_)) (.inr hx)))
  rw [List.set_comm _ _ (Ne.symm hij)] at I5
  exact ⟨_, H1, I5, q1⟩
/-- name op= e -/
def tAug (i : Nat) (te : TE) (ti : TIp) : TS := fun D σ H => ∃ x, σ[i]? = some (some x) ∧ te σ H fun y H1 => ti x y H1 fun z H2 => D.nx (σ.set i (some z)) H2
theorem ps_aug {i : Nat} {x : Str} {e : Expr} {te : TE} {op : Operator} {ti : TIp} {pos' : Pos} (hN : X.N.Nodup) (hi : X.N[i]? = some x) (hx : Loc X.env.scope x) (he : PE X e te) (ho : PIp X op ti) (hf : X.fn x = true ∨ X.env.scope.names.lookup x = some .local := by first | exact .inl rfl | exact .inr rfl | assumption) :
    PS X (.AugAssign (.Name x pos') op e pos) (tAug i te ti) := by
  intro pins s σ H D I h
  obtain ⟨v, e1, h⟩ := h
  obtain ⟨m, hn, hl⟩ := I.loc
  have vis : Vis X.env.scope x := by rcases hx with k | k; exact .inl k; exact .inr (.inl k)
  obtain ⟨u, r, l⟩ := hl i x v hi e1 vis
  refine wpAny_AugAssign_Name ?_
  have go : wpAny (model X.prog X.w) X.A (eval e X.env) (fun w s₂ => wpAny (model X.prog X.w) X.A (inplaceOp op u w) (fun r s₃ => wpAny (model X.prog X.w) X.A (storeName X.env x r) (fun _ => SP X pins D .next) X.xe s₃) X.xe s₂) X.xe s := by
    refine thn (he pins s σ H _ I h) fun w s1 ⟨y, H1, I1, r1, q1⟩ => ?_
    refine thn (ho pins s1 σ H1 v y u w _ I1 r r1 q1) fun z s2 ⟨zv, H2, I2, r2, q2⟩ => ?_
    exact store_ok I2 hN hi hx r2 (fun s3 I3 => ⟨_, H2, I3, q2⟩) hf
  rcases l with ⟨hk, hm⟩ | ⟨hk, c, hc, hcell⟩
  · exact wpAny_loadName_local I.ok.kind hk hn hm go
  · rcases hk with hk | hk
    · exact wpAny_loadName_cell I.ok.kind hk hc hcell go
    · rcases hx with k | k
      · have : X.env.scope.names.lookup x = some .free := hk
        rw [k] at this; cases this
      · have : X.env.scope.names.lookup x = some .free := hk
        rw [k] at this; cases this
/-- o[i] op= e -/
def tAugS (to ti te : TE) (tget : V → V → Hp → VK → Prop) (tip : TIp) (tset : TSet) : TS := fun D σ H => to σ H fun o H1 => ti σ H1 fun i H2 => tget o i H2 fun x H3 => te σ H3 fun y H4 => tip x y H4 fun z H5 => tset o i z H5 fun H6 => D.nx σ H6
/-- o[i], by values -/
def PGet (X : Cx) (t : V → V → Hp → VK → Prop) : Prop :=
  ∀ (pins : List (Addr × Obj)) (s : Shared) (σ : St) (H : Hp) (o i : V) (ov iv : Value) (Q : VK), Inv X pins σ H s → RelV o ov → RelV i iv → t o i H Q →
    wpAny (model X.prog X.w) X.A (getItem ov iv) (EP X pins σ Q) X.xe s
theorem ps_augS {o i e : Expr} {to ti te : TE} {tget : V → V → Hp → VK → Prop} {tip : TIp} {tset : TSet} {op : Operator} {tpos : Pos} (ho : PE X o to) (hi : PE X i ti) (hg : PGet X tget) (he : PE X e te) (hp : PIp X op tip) (hs : PSet X tset)
    (ha : ∀ ov iv new, augStore i ov iv new = (do holding [new, ov, iv] (setItem ov iv new); release [new, ov, iv] []; pure .next) := by intros; rfl) : PS X (.AugAssign (.Subscript o i tpos) op e pos) (tAugS to ti te tget tip tset) := by
  intro pins s σ H D I h
  refine wpAny_AugAssign_SubscriptAny (thn (ho pins s σ H _ I h) fun ov s1 ⟨x1, H1, I1, r1, q1⟩ => ?_) ha
  refine thn (hi pins s1 σ H1 _ I1 q1) fun iv s2 ⟨x2, H2, I2, r2, q2⟩ => ?_
  refine thn (hg pins s2 σ H2 x1 x2 ov iv _ I2 r1 r2 q2) fun old s3 ⟨x3, H3, I3, r3, q3⟩ => ?_
  refine thn (he pins s3 σ H3 _ I3 q3) fun v s4 ⟨x4, H4, I4, r4, q4⟩ => ?_
  refine thn (hp pins s4 σ H4 x3 x4 old v _ I4 r3 r4 q4) fun new s5 ⟨x5, H5, I5, r5, q5⟩ => ?_
  exact thn (hs pins s5 σ H5 x1 x2 x5 ov iv new _ I5 r1 r2 r5 q5) fun _ s6 ⟨H6, I6, q6⟩ => ⟨σ, H6, I6, q6⟩
/-- ints -/
def ipI (f : Int → Int → Int) : TIp := fun x y H Q => ∃ i j, x = .int i ∧ y = .int j ∧ Q (.int (f i j)) H
theorem ip_add : PIp X .Add (ipI fun i j => i + j) := by
  intro pins s σ H x y v u Q I r1 r2 h
  obtain ⟨i, j, e1, e2, q⟩ := h
  subst e1; subst e2
  obtain ⟨t, rfl⟩ := r1
  obtain ⟨t', rfl⟩ := r2
  exact iadd_int ⟨.int _, H, I.tok _, ⟨_, rfl⟩, q⟩
theorem ip_sub : PIp X .Sub (ipI fun i j => i - j) := by
  intro pins s σ H x y v u Q I r1 r2 h
  obtain ⟨i, j, e1, e2, q⟩ := h
  subst e1; subst e2
  obtain ⟨t, rfl⟩ := r1
  obtain ⟨t', rfl⟩ := r2
  exact isub_int ⟨.int _, H, I.tok _, ⟨_, rfl⟩, q⟩
end

/-! ### while -/
section
variable {X : Cx} {pos : Pos}
/-- the invariant W with its measure -/
def tWhile (c : TT) (tb : TS) : TS := fun D σ H => ∃ W : Nat → St → Hp → Prop, (∃ m, W m σ H) ∧ ∀ m σ H, W m σ H →
  c σ H fun b H1 => if b = true then ∃ N : St → Hp → Prop, (∀ σ' H', N σ' H' → ∃ m', m' < m ∧ W m' σ' H') ∧ tb { D with nx := N, ct := N, bk := D.nx } σ H1 else D.nx σ H1
theorem ps_while {c : Expr} {body : List Stmt} {tc : TT} {tb : TS} (hp : PassesOwn (model X.prog X.w) X.A X.env X.xe) (hc : PT X c tc) (hb : PSs X body tb) : PS X (.While c body [] pos) (tWhile tc tb) := by
  intro pins s σ H D I h
  obtain ⟨W, ⟨m0, w0⟩, turn⟩ := h
  refine wpAny_While (codeAny_whileLoop (fun n s' => ∃ σ' H', Inv X pins σ' H' s' ∧ W n σ' H') ?_ m0 ⟨σ, H, I, w0⟩)
  rintro n s1 ⟨σ1, H1, I1, w1⟩
  refine wpAny_passesOwn hp (thn (hc pins s1 σ1 H1 _ I1 (turn n σ1 H1 w1)) fun b s2 ⟨H2, I2, q2⟩ => ?_)
  cases b with
  | true =>
    obtain ⟨N, hN, q2⟩ := q2
    rw [if_pos rfl]
    refine wpAny_passesOwn hp (thn (hb pins s2 σ1 H2 _ I2 q2) fun f s3 q3 => ?_)
    cases f with
    | next =>
      obtain ⟨σ3, H3, I3, n3⟩ := q3
      obtain ⟨m', hm, w3⟩ := hN σ3 H3 n3
      exact ⟨m', hm, σ3, H3, I3, w3⟩
    | cont =>
      obtain ⟨σ3, H3, I3, n3⟩ := q3
      obtain ⟨m', hm, w3⟩ := hN σ3 H3 n3
      exact ⟨m', hm, σ3, H3, I3, w3⟩
    | brk => exact q3
    | ret v => exact q3
  | false =>
    rw [if_neg Bool.false_ne_true]
    exact wpAny_execs_nil ⟨σ1, H2, I2, q2⟩
end

/-! ### what a loop or a comprehension walks -/
/-- at turn i: it yields x (the heap may grow), or it stops -/
structure It where
  go : Nat → Hp → Prop
  yld : Nat → Hp → V → Hp → Prop
  stop : Nat → Hp → Prop
/-- the iterator's own objects may turn: they are not the frame's, not pinned, younger than the entry (or a comprehension's own) -/
def FpOk (X : Cx) (pins : List (Addr × Obj)) (H : Hp) (b : Addr) : Prop :=
  H b = none ∧ b ≠ X.env.locals ∧ b ∉ X.fs ∧ (b ∈ X.ex ∨ X.s₀.heap.objs.size ≤ b) ∧ (∀ x c, X.env.cells.lookup x = some c → c ≠ b) ∧ ∀ p ∈ X.pn ++ pins, p.1 ≠ b
theorem Inv.fpOk {X : Cx} {pins : List (Addr × Obj)} {σ : St} {H H' : Hp} {s : Shared} {b : Addr} (I : Inv X pins σ H s) (hb : s.heap.objs.size ≤ b) (hn : H' b = none) : FpOk X pins H' b := by
  refine ⟨hn, Nat.ne_of_gt (Nat.lt_of_lt_of_le I.lt hb), I.nofs hb, .inr (Nat.le_trans I.sz hb), fun x c e z => ?_, fun p hp z => ?_⟩
  · obtain ⟨v, q⟩ := I.cell x c e
    exact absurd (Nat.lt_of_lt_of_le q.lt (by rw [z]; exact hb)) (Nat.lt_irrefl _)
  · exact absurd (Nat.lt_of_lt_of_le (Heap.lt_size (I.pin p hp).1) (by rw [z]; exact hb)) (Nat.lt_irrefl _)
structure Turn (P : Program) (w : World) (K : PySem.W.Frag) (tg : Expr) (J : It) (fp : List Addr) (it : Addr) (tn : Nat → Heap → Prop) : Prop where
  mem : it ∈ fp
  obj : ∀ i h, tn i h → ∀ b ∈ fp, ∃ o, h.get? b = some o ∧ ∀ v, o.data ≠ .cell v
  keep : ∀ i h h', tn i h → (∀ b ∈ fp, ∀ o, h.get? b = some o → h'.get? b = some o) → tn i h'
  item : ∀ (X : Cx), X.prog = P → X.w = w → X.K = K → X.calm = true → ∀ (i : Nat) (pins : List (Addr × Obj)) (s : Shared) (σ : St) (H : Hp) (E : Value → Shared → Prop), Inv X pins σ H s → (∀ b ∈ fp, FpOk X pins H b) → tn i s.heap → J.go i H →
    wpAny (model P w) X.A (pyNext (.ref it)) (fun r s1 => ∃ u, r = some u ∧
      wpAny (model P w) X.A (letOwnedTupleGo tg (.ref it) u) (fun _ s2 => ∃ x H', Inv X pins σ H' s2 ∧ RelV x u ∧ J.yld i H x H' ∧ tn (i + 1) s2.heap ∧ ∀ b ∈ fp, H' b = none) E s1) E s
  done : ∀ (X : Cx), X.prog = P → X.w = w → X.K = K → X.calm = true → ∀ (i : Nat) (pins : List (Addr × Obj)) (s : Shared) (σ : St) (H : Hp) (E : Value → Shared → Prop), Inv X pins σ H s → (∀ b ∈ fp, FpOk X pins H b) → tn i s.heap → J.stop i H →
    wpAny (model P w) X.A (pyNext (.ref it)) (fun r s1 => r = none ∧ Inv X pins σ H s1) E s
  self : ∀ (A : Around) (i : Nat) (s : Shared) (Q : Value → Shared → Prop) (E : Value → Shared → Prop), tn i s.heap → Q (.ref it) s → wpAny (model P w) A (pyIter (.ref it)) Q E s
abbrev TI := St → Hp → (It → Hp → Prop) → Prop
/-- an iterator has come -/
def PIE (X : Cx) (pins : List (Addr × Obj)) (σ : St) (tg : Expr) (R : It → Hp → Prop) (itv : Value) (s2 : Shared) : Prop :=
  ∃ (it : Addr) (fp : List Addr) (tn : Nat → Heap → Prop) (J : It) (H' : Hp), itv = .ref it ∧ Inv X pins σ H' s2 ∧ Turn X.prog X.w X.K tg J fp it tn ∧ tn 0 s2.heap ∧ (∀ b ∈ fp, FpOk X pins H' b) ∧ R J H'
def PI (X : Cx) (tg iter : Expr) (wi : TI) : Prop :=
  ∀ (pins : List (Addr × Obj)) (s : Shared) (σ : St) (H : Hp) (R : It → Hp → Prop), Inv X pins σ H s → wi σ H R →
    wpAny (model X.prog X.w) X.A (eval iter X.env) (fun v s1 => wpAny (model X.prog X.w) X.A (pyIter v) (PIE X pins σ tg R) X.xe s1) X.xe s

/-- the step ahead of the store is nothing for an iterator that keeps no tuple -/
theorem go_of {M : Model} {A : Around} {E : Value → Shared → Prop} {s : Shared} {tg : Expr} {it : Addr} {u : Value} {o : Obj} {n : String} {vs : Array Value} {Q : Unit → Shared → Prop} (ho : s.heap.get? it = some o) (hc : o.cls = .type n) (hd : o.data = .fields vs)
    (hn : ["enumerate", "zip", "dict_itemiterator", "dict_reverseitemiterator", "odict_iterator", "itertools.zip_longest", "itertools.pairwise"].contains n = false) (hQ : Q () s) : wpAny M A (letOwnedTupleGo tg (.ref it) u) Q E s := by
  unfold letOwnedTupleGo
  cases tg <;> first
    | exact wpAny_pure hQ
    | (cases u <;> first
        | exact wpAny_pure hQ
        | (refine wpAny_bind (wpAny_load ho ?_)
           rw [hc, hd]
           show wpAny M A (if (["enumerate", "zip", "dict_itemiterator", "dict_reverseitemiterator", "odict_iterator", "itertools.zip_longest", "itertools.pairwise"].contains n && vs[0]? == some (rawInt _)) = true then _ else _) Q E s
           rw [if_neg (by intro h; rw [hn, Bool.false_and] at h; cases h)]
           exact wpAny_pure hQ))

/-- the list at a, as it stands at each turn (a loop may append to it) -/
def Itl (K : PySem.W.Frag) (a : Addr) : It :=
  ⟨fun i H => ∃ xs x, SqL K H a xs ∧ xs[i]? = some x, fun i H x H' => H' = H ∧ ∀ xs, SqL K H a xs → xs[i]? = some x, fun i H => ∃ xs, SqL K H a xs ∧ xs.length ≤ i⟩
def Itt (K : PySem.W.Frag) (a : Addr) : It :=
  ⟨fun i H => ∃ xs x, SqT K H a xs ∧ xs[i]? = some x, fun i H x H' => H' = H ∧ ∀ xs, SqT K H a xs → xs[i]? = some x, fun i H => ∃ xs, SqT K H a xs ∧ xs.length ≤ i⟩
/-- lo, lo + 1, .. (n of them) -/
def Itr (lo : Int) (n : Nat) : It := ⟨fun i _ => i < n, fun i H x H' => H' = H ∧ x = .int (lo + i), fun i _ => n ≤ i⟩
theorem turn_list {P : Program} {w : World} {K : PySem.W.Frag} {tg : Expr} (a it : Addr) : Turn P w K tg (Itl K a) [it] it (fun i h => h.IsListIter it a i) where
  mem := by simp
  obj := fun i h st b hb => by
    have e : b = it := by simpa using hb
    subst e
    obtain ⟨o, e, c, d⟩ := st
    exact ⟨o, e, fun v z => by rw [d] at z; cases z⟩
  keep := fun i h h' st k => st.at fun o e => k it (by simp) o e
  item := by
    intro X hP hw hK hc i pins s σ H E I hf st hg
    subst hP hw hK
    obtain ⟨xs, x, hq, hx⟩ := hg
    obtain ⟨its, rv, p, hz⟩ := I.list hq
    obtain ⟨u, hu, ru⟩ := rv.get hx
    obtain ⟨f0, f1, f2, f3, f4, f5⟩ := hf it (by simp)
    refine wpAny_pyNext_list_item st p.isList (x := u) (by simpa using hu) fun h' st' sb => ?_
    have I1 : Inv X pins σ H { s with heap := h' } := I.turned (t' := s.toks) (fun b o hb e => (sb.2 b hb).trans e) f0 f1 f3 f4 f5
    obtain ⟨o, e, c, d⟩ := id st'
    exact ⟨u, rfl, go_of (s := { s with heap := h' }) e c d (by decide) ⟨x, H, I1, ru, ⟨rfl, fun ys hy => by rw [I.list_inj hy hq]; exact hx⟩, st', fun b hb => (hf b hb).1⟩⟩
  done := by
    intro X hP hw hK hc i pins s σ H E I hf st hg
    subst hP hw hK
    obtain ⟨xs, hq, hx⟩ := hg
    obtain ⟨its, rv, p, hz⟩ := I.list hq
    obtain ⟨f0, f1, f2, f3, f4, f5⟩ := hf it (by simp)
    have hl := rv.length
    exact wpAny_pyNext_list_end (I.ok.hd hc) st p.isList (by simp; omega) fun h' eb => ⟨rfl, I.turned (t' := s.toks) (fun b o hb e => eb b o hb e) f0 f1 f3 f4 f5⟩
  self := fun _ _ _ _ _ st h => wpAny_pyIter_listiter st h
theorem turn_tuple {P : Program} {w : World} {K : PySem.W.Frag} {tg : Expr} (a it : Addr) : Turn P w K tg (Itt K a) [it] it (fun i h => h.IsTupleIter it a i) where
  mem := by simp
  obj := fun i h st b hb => by
    have e : b = it := by simpa using hb
    subst e
    obtain ⟨o, e, c, d⟩ := st
    exact ⟨o, e, fun v z => by rw [d] at z; cases z⟩
  keep := fun i h h' st k => st.at fun o e => k it (by simp) o e
  item := by
    intro X hP hw hK hc i pins s σ H E I hf st hg
    subst hP hw hK
    obtain ⟨xs, x, hq, hx⟩ := hg
    obtain ⟨its, rv, p, hz⟩ := I.tuple hq
    obtain ⟨u, hu, ru⟩ := rv.get hx
    obtain ⟨f0, f1, f2, f3, f4, f5⟩ := hf it (by simp)
    refine wpAny_pyNext_tuple_item st (show s.heap.IsTuple a its.toArray from p) (x := u) (by simpa using hu) fun h' st' sb => ?_
    have I1 : Inv X pins σ H { s with heap := h' } := I.turned (t' := s.toks) (fun b o hb e => (sb.2 b hb).trans e) f0 f1 f3 f4 f5
    obtain ⟨o, e, c, d⟩ := id st'
    exact ⟨u, rfl, go_of (s := { s with heap := h' }) e c d (by decide) ⟨x, H, I1, ru, ⟨rfl, fun ys hy => by rw [I.tuple_inj hy hq]; exact hx⟩, st', fun b hb => (hf b hb).1⟩⟩
  done := by
    intro X hP hw hK hc i pins s σ H E I hf st hg
    subst hP hw hK
    obtain ⟨xs, hq, hx⟩ := hg
    obtain ⟨its, rv, p, hz⟩ := I.tuple hq
    obtain ⟨f0, f1, f2, f3, f4, f5⟩ := hf it (by simp)
    have hl := rv.length
    exact wpAny_pyNext_tuple_end (I.ok.hd hc) st (show s.heap.IsTuple a its.toArray from p) (by simp; omega) fun h' eb => ⟨rfl, I.turned (t' := s.toks) (fun b o hb e => eb b o hb e) f0 f1 f3 f4 f5⟩
  self := fun _ _ _ _ _ st h => wpAny_pyIter_tupleiter st h
theorem turn_range {P : Program} {w : World} {K : PySem.W.Frag} {tg : Expr} (it : Addr) (lo : Int) (n : Nat) : Turn P w K tg (Itr lo n) [it] it (fun i h => IsRangeIter h it (lo + (i : Nat) * 1) ((n : Int) - (i : Nat)) 1) where
  mem := by simp
  obj := fun i h st b hb => by
    have e : b = it := by simpa using hb
    subst e
    exact ⟨_, st, fun v z => by
      have z' : Data.fields _ = Data.cell v := z
      cases z'⟩
  keep := fun i h h' st k => k it (by simp) _ st
  item := by
    intro X hP hw hK hc i pins s σ H E I hf st hg
    subst hP hw hK
    obtain ⟨f0, f1, f2, f3, f4, f5⟩ := hf it (by simp)
    have W := Walks.range (prog := X.prog) (w := X.w) (I.ok.hd hc) it lo 1 n
    refine W.item i s _ _ hg st fun v h' tk hv st' kk => ?_
    obtain ⟨t, rfl⟩ := hv
    have I1 : Inv X pins σ H { s with heap := h', toks := tk } := I.turned (fun b o hb e => kk b o (by simpa using hb) e) f0 f1 f3 f4 f5
    refine ⟨_, rfl, go_of (s := { s with heap := h', toks := tk }) (n := "range_iterator") st' rfl rfl (by decide) ⟨.int (lo + i), H, I1, ⟨t, ?_⟩, ⟨rfl, rfl⟩, st', fun b hb => (hf b hb).1⟩⟩
    rw [Int.mul_one]
  done := by
    intro X hP hw hK hc i pins s σ H E I hf st hg
    subst hP hw hK
    obtain ⟨f0, f1, f2, f3, f4, f5⟩ := hf it (by simp)
    exact wpAny_pyNext_range_end (I.ok.hd hc) st (by have : n ≤ i := hg; omega) fun h' eb => ⟨rfl, I.turned (t' := s.toks) (fun b o hb e => eb b o hb e) f0 f1 f3 f4 f5⟩
  self := fun _ _ _ _ _ st h => wpAny_pyIter_rangeiter st h
end L2

namespace L2
open PySem PySem.Spec PyProof.Rows
section
variable {X : Cx} {tg : Expr}
def iList (K : PySem.W.Frag) (tl : TE) : TI := fun σ H R => tl σ H fun x H1 => ∃ a, x = .ref a ∧ (∃ xs, SqL K H1 a xs) ∧ R (Itl K a) H1
def iTup (K : PySem.W.Frag) (tl : TE) : TI := fun σ H R => tl σ H fun x H1 => ∃ a, x = .ref a ∧ (∃ xs, SqT K H1 a xs) ∧ R (Itt K a) H1
theorem pi_list {l : Expr} {tl : TE} (hl : PE X l tl) : PI X tg l (iList X.K tl) := by
  intro pins s σ H R I h
  refine thn (hl pins s σ H _ I h) fun v s1 ⟨x, H1, I1, r1, q1⟩ => ?_
  obtain ⟨a, e, ⟨xs, hq⟩, q⟩ := q1
  subst e
  cases r1
  obtain ⟨its, rv, p, hz⟩ := I1.list hq
  refine wpAny_pyIter_list p.isList ?_
  refine ⟨s1.heap.objs.size, [s1.heap.objs.size], _, _, H1, rfl, I1.kept (t' := s1.toks) fun b o e => Heap.get?_push_of_some _ e, turn_list a _, ⟨_, Heap.get?_push_size _ rfl, rfl, rfl⟩, fun b hb => ?_, q⟩
  have e : b = s1.heap.objs.size := by simpa using hb
  subst e
  exact I1.fpOk (Nat.le_refl _) (I1.hok.fresh (Nat.le_refl _))
theorem pi_tup {l : Expr} {tl : TE} (hl : PE X l tl) : PI X tg l (iTup X.K tl) := by
  intro pins s σ H R I h
  refine thn (hl pins s σ H _ I h) fun v s1 ⟨x, H1, I1, r1, q1⟩ => ?_
  obtain ⟨a, e, ⟨xs, hq⟩, q⟩ := q1
  subst e
  cases r1
  obtain ⟨its, rv, p, hz⟩ := I1.tuple hq
  refine wpAny_pyIter_tuple (show s1.heap.IsTuple a its.toArray from p) ?_
  refine ⟨s1.heap.objs.size, [s1.heap.objs.size], _, _, H1, rfl, I1.kept (t' := s1.toks) fun b o e => Heap.get?_push_of_some _ e, turn_tuple a _, ⟨_, Heap.get?_push_size _ rfl, rfl, rfl⟩, fun b hb => ?_, q⟩
  have e : b = s1.heap.objs.size := by simpa using hb
  subst e
  exact I1.fpOk (Nat.le_refl _) (I1.hok.fresh (Nat.le_refl _))
/-- a range object just made, walked -/
theorem range_it {pins : List (Addr × Obj)} {σ : St} {H : Hp} {s : Shared} {R : It → Hp → Prop} {E : Value → Shared → Prop} {lo hi : Int} {t u v : Tok} {tk : Nat} (I : Inv X pins σ H s) (h1 : -(2 ^ 62) ≤ lo) (h2 : lo < 2 ^ 62) (h3 : -(2 ^ 62) ≤ hi) (h4 : hi < 2 ^ 62)
    (q : R (Itr lo (hi - lo).toNat) H) : wpAny (model X.prog X.w) X.A (pyIter (.ref s.heap.objs.size)) (PIE X pins σ tg R) E { s with heap := s.heap.push { cls := .type "range", data := .fields #[.int lo t, .int hi u, .int 1 v] }, toks := tk } := by
  refine wpAny_pyIter_range (IsRange.new ..) (small_one h1 h2 h3 h4) ?_
  have I1 : Inv X pins σ H { s with heap := s.heap.push { cls := .type "range", data := .fields #[.int lo t, .int hi u, .int 1 v] }, toks := tk } := I.kept fun b o e => Heap.get?_push_of_some _ e
  refine ⟨(s.heap.push { cls := .type "range", data := .fields #[.int lo t, .int hi u, .int 1 v] }).objs.size, [(s.heap.push { cls := .type "range", data := .fields #[.int lo t, .int hi u, .int 1 v] }).objs.size], _, _, H, rfl,
    I1.kept (t' := tk) fun b o e => Heap.get?_push_of_some _ e, turn_range _ lo (hi - lo).toNat, ?_, fun b hb => ?_, q⟩
  · have e1 : lo + ((0 : Nat) : Int) * 1 = lo := by simp
    have e2 : (((hi - lo).toNat : Nat) : Int) - ((0 : Nat) : Int) = Builtin.Range.rangeSize lo hi 1 := by rw [rangeSize_one]; split <;> omega
    show IsRangeIter _ _ (lo + ((0 : Nat) : Int) * 1) ((((hi - lo).toNat : Nat) : Int) - ((0 : Nat) : Int)) 1
    rw [e1, e2]
    exact Heap.get?_push_size _ rfl
  · have e : b = (s.heap.push { cls := .type "range", data := .fields #[.int lo t, .int hi u, .int 1 v] }).objs.size := by simpa using hb
    subst e
    exact I1.fpOk (Nat.le_refl _) (I1.hok.fresh (Nat.le_refl _))
def iRng1 (ta : TA) : TI := fun σ H R => ta σ H fun vs H1 => ∃ j : Int, vs = [.int j] ∧ -(2 ^ 62) ≤ j ∧ j < 2 ^ 62 ∧ R (Itr 0 j.toNat) H1
def iRng2 (ta : TA) : TI := fun σ H R => ta σ H fun vs H1 => ∃ i j : Int, vs = [.int i, .int j] ∧ (-(2 ^ 62) ≤ i ∧ i < 2 ^ 62 ∧ -(2 ^ 62) ≤ j ∧ j < 2 ^ 62) ∧ R (Itr i (j - i).toNat) H1
theorem pi_range1 {a : Expr} {ta : TA} {p pos : Pos} (hg : Gl X "range") (hm : X.mg "range" = none) (ha : PA X [a] ta) (hs : starEach [a] X.env = [(false, eval a X.env)] := by rfl) : PI X tg (.Call (.Name "range" p) [a] [] pos) (iRng1 ta) := by
  intro pins s σ H R I h
  refine Call_ (ld_blt I hg hm boot_range (PyProof.Rows.callWith_type1 (thn (ha pos pins s σ H _ I h) fun us s1 ⟨vs, H1, I1, r1, q1⟩ => ?_) hs rfl))
  obtain ⟨j, e, q1, q2, q⟩ := q1
  subst e
  cases r1 with
  | cons r rr =>
    cases rr
    obtain ⟨t, rfl⟩ := r
    exact call_range_1 (range_it I1 (by omega) (by omega) q1 q2 (by simpa using q))
theorem pi_range2 {a b : Expr} {ta : TA} {p pos : Pos} (hg : Gl X "range") (hm : X.mg "range" = none) (ha : PA X [a, b] ta) (hs : starEach [a, b] X.env = [(false, eval a X.env), (false, eval b X.env)] := by rfl) (hs2 : starEach [b] X.env = [(false, eval b X.env)] := by rfl) :
    PI X tg (.Call (.Name "range" p) [a, b] [] pos) (iRng2 ta) := by
  intro pins s σ H R I h
  refine Call_ (ld_blt I hg hm boot_range (PyProof.Rows.callWith_type1 (thn (ha pos pins s σ H _ I h) fun us s1 ⟨vs, H1, I1, r1, q1⟩ => ?_) (by rw [hs, hs2]) (by rw [hs2]; rfl)))
  obtain ⟨i, j, e, ⟨q1, q2, q3, q4⟩, q⟩ := q1
  subst e
  cases r1 with
  | cons r rr =>
    cases rr with
    | cons r' rr =>
      cases rr
      obtain ⟨t, rfl⟩ := r
      obtain ⟨t', rfl⟩ := r'
      exact call_range_2 (range_it I1 q1 q2 q3 q4 q)

/-! ### for -/
/-- W: the invariant by the turn and a measure; N: what the body is to reach -/
def tFor (wi : TI) (g : TG) (tb : TS) : TS := fun D σ H => wi σ H fun J H1 => ∃ W : Nat → Nat → St → Hp → Prop, (∃ m, W 0 m σ H1) ∧ ∀ i m σ H, W i m σ H →
  (J.stop i H ∧ D.nx σ H) ∨ (J.go i H ∧ ∃ N : St → Hp → Prop, (∀ σ' H', N σ' H' → ∃ m', m' < m ∧ W (i + 1) m' σ' H') ∧ ∀ x H', J.yld i H x H' → g x σ H' fun σ2 H2 => tb { D with nx := N, ct := N, bk := D.nx } σ2 H2)
/-- the records at fp as they stand -/
def pinsAt (fp : List Addr) (h : Heap) : List (Addr × Obj) := fp.filterMap fun b => (h.get? b).map fun o => (b, o)
theorem mem_pinsAt {fp : List Addr} {h : Heap} {b : Addr} {o : Obj} (hb : b ∈ fp) (e : h.get? b = some o) : (b, o) ∈ pinsAt fp h := List.mem_filterMap.mpr ⟨b, hb, by rw [e]; rfl⟩
theorem of_pinsAt {fp : List Addr} {h : Heap} {p : Addr × Obj} (hp : p ∈ pinsAt fp h) : p.1 ∈ fp ∧ h.get? p.1 = some p.2 := by
  obtain ⟨b, hb, e⟩ := List.mem_filterMap.mp hp
  cases q : h.get? b with
  | none => rw [q] at e; cases e
  | some o =>
    rw [q] at e
    have e' : (b, o) = p := Option.some.inj e
    subst e'
    exact ⟨hb, q⟩
theorem Inv.pinned {pins : List (Addr × Obj)} {σ : St} {H : Hp} {s : Shared} {fp : List Addr} (I : Inv X pins σ H s) (hf : ∀ b ∈ fp, FpOk X pins H b) (ho : ∀ b ∈ fp, ∃ o, s.heap.get? b = some o ∧ ∀ v, o.data ≠ .cell v) : Inv X (pins ++ pinsAt fp s.heap) σ H s :=
  I.pins_of fun p hp => (List.mem_append.mp hp).elim (fun z => I.pin p (List.mem_append_right _ z)) fun z => by
    obtain ⟨hb, e⟩ := of_pinsAt z
    obtain ⟨f0, f1, f2, _⟩ := hf p.1 hb
    obtain ⟨o, e', d⟩ := ho p.1 hb
    rw [e] at e'; cases e'
    exact ⟨e, f0, f1, f2, d⟩
theorem Inv.unpinned {pins pl : List (Addr × Obj)} {σ : St} {H : Hp} {s : Shared} (I : Inv X (pins ++ pl) σ H s) : Inv X pins σ H s := I.pins_of fun p hp => I.pin p (List.mem_append_right _ (List.mem_append_left _ hp))
theorem ps_for {iter : Expr} {body : List Stmt} {wi : TI} {g : TG} {tb : TS} {pos : Pos} (hp : PassesOwn (model X.prog X.w) X.A X.env X.xe) (hc : X.calm = true) (hi : PI X tg iter wi) (hg : PG X tg g) (hb : PSs X body tb)
    (hs : ∀ x, foldedSetIterable iter X.env x = pure x := by intro _; rfl) : PS X (.For tg iter body [] pos) (tFor wi g tb) := by
  intro pins s σ H D I h
  refine wpAny_For (thn (hi pins s σ H _ I h) fun v s1 h1 => thn h1 fun itv s2 h2 => ?_) hs
  obtain ⟨it, fp, tn, J, H2, e, I2, T, st2, f2, W, ⟨m0, w0⟩, turn⟩ := h2
  subst e
  -- what stays true of the iterator's objects through the loop
  have stat : ∀ {H' : Hp}, (∀ b ∈ fp, H' b = none) → ∀ b ∈ fp, FpOk X pins H' b := fun hn b hb => ⟨hn b hb, (f2 b hb).2⟩
  refine codeAny_forLoop_any (fun n s' => ∃ i σ' H', Inv X pins σ' H' s' ∧ tn i s'.heap ∧ (∀ b ∈ fp, H' b = none) ∧ W i n σ' H') ?_ m0 ⟨0, σ, H2, I2, st2, fun b hb => (f2 b hb).1, w0⟩
  rintro n s3 ⟨i, σ3, H3, I3, st3, fr3, w3⟩
  rcases turn i n σ3 H3 w3 with ⟨stop, qn⟩ | ⟨go, N, hN, step⟩
  · refine wpAny_passesOwn hp (thn (T.done X rfl rfl rfl hc i pins s3 σ3 H3 X.xe I3 (stat fr3) st3 stop) fun r s4 ⟨hr, I4⟩ => ?_)
    subst hr
    exact wpAny_execs_nil ⟨σ3, H3, I4, qn⟩
  · refine wpAny_passesOwn hp (thn (T.item X rfl rfl rfl hc i pins s3 σ3 H3 X.xe I3 (stat fr3) st3 go) fun r s4 ⟨u, hr, h4⟩ => ?_)
    subst hr
    refine wpAny_passesOwn hp (thn h4 fun _ s5 ⟨x, H5, I5, r5, y5, st5, fr5⟩ => ?_)
    have I5' := I5.pinned (stat fr5) (T.obj _ _ st5)
    refine wpAny_passesOwn hp (thn (hg _ s5 σ3 H5 x u _ I5' r5 (step x H5 y5)) fun _ s6 ⟨σ6, H6, I6, q6⟩ => ?_)
    refine wpAny_passesOwn hp (thn (hb _ s6 σ6 H6 _ I6 q6) fun f s7 q7 => ?_)
    have again : ∀ {σ7 : St} {H7 : Hp}, Inv X (pins ++ pinsAt fp s5.heap) σ7 H7 s7 → N σ7 H7 → ∃ m, m < n ∧ ∃ i σ' H', Inv X pins σ' H' s7 ∧ tn i s7.heap ∧ (∀ b ∈ fp, H' b = none) ∧ W i m σ' H' := fun {σ7 H7} I7 n7 => by
      obtain ⟨m', hm, w7⟩ := hN σ7 H7 n7
      refine ⟨m', hm, i + 1, σ7, H7, I7.unpinned, T.keep _ _ _ st5 fun b hb o e => (I7.pin (b, o) (List.mem_append_right _ (List.mem_append_right _ (mem_pinsAt hb e)))).1, fun b hb => ?_, w7⟩
      obtain ⟨o, e, d⟩ := T.obj _ _ st5 b hb
      exact (I7.pin (b, o) (List.mem_append_right _ (List.mem_append_right _ (mem_pinsAt hb e)))).2.1
    cases f with
    | next => obtain ⟨σ7, H7, I7, n7⟩ := q7; exact again I7 n7
    | cont => obtain ⟨σ7, H7, I7, n7⟩ := q7; exact again I7 n7
    | brk => obtain ⟨σ7, H7, I7, q7⟩ := q7; exact ⟨σ7, H7, I7.unpinned, q7⟩
    | ret v => obtain ⟨x7, σ7, H7, I7, r7, q7⟩ := q7; exact ⟨x7, σ7, H7, I7.unpinned, r7, q7⟩
end

/-! ### the forms one uses -/
/-- over a list that the body leaves as it is -/
theorem for_list {K : PySem.W.Frag} {a : Addr} {xs : List V} {g : TG} {tb : TS} {D : Ends} {σ : St} {H : Hp} (Pv : Nat → St → Hp → Prop) (h0 : Pv 0 σ H) (hl : ∀ i σ H, i ≤ xs.length → Pv i σ H → SqL K H a xs)
    (hs : ∀ i x σ H, xs[i]? = some x → Pv i σ H → g x σ H fun σ2 H2 => tb { D with nx := Pv (i + 1), ct := Pv (i + 1), bk := D.nx } σ2 H2) (hd : ∀ σ H, Pv xs.length σ H → D.nx σ H) :
    ∃ W : Nat → Nat → St → Hp → Prop, (∃ m, W 0 m σ H) ∧ ∀ i m σ H, W i m σ H →
      ((Itl K a).stop i H ∧ D.nx σ H) ∨ ((Itl K a).go i H ∧ ∃ N : St → Hp → Prop, (∀ σ' H', N σ' H' → ∃ m', m' < m ∧ W (i + 1) m' σ' H') ∧ ∀ x H', (Itl K a).yld i H x H' → g x σ H' fun σ2 H2 => tb { D with nx := N, ct := N, bk := D.nx } σ2 H2) := by
  refine ⟨fun i m σ H => m = xs.length - i ∧ i ≤ xs.length ∧ Pv i σ H, ⟨xs.length, by simp, Nat.zero_le _, h0⟩, ?_⟩
  rintro i m σ H ⟨rfl, hi, p⟩
  have q := hl i σ H hi p
  by_cases hlt : i < xs.length
  · refine .inr ⟨⟨xs, xs[i], q, by simp [hlt]⟩, Pv (i + 1), fun σ' H' p' => ⟨xs.length - (i + 1), by omega, rfl, hlt, p'⟩, fun x H' y => ?_⟩
    obtain ⟨e, y⟩ := y
    subst e
    exact hs i x σ _ (y xs q) p
  · have e : i = xs.length := by omega
    subst e
    exact .inl ⟨⟨xs, q, Nat.le_refl _⟩, hd σ H p⟩
theorem for_tup {K : PySem.W.Frag} {a : Addr} {xs : List V} {g : TG} {tb : TS} {D : Ends} {σ : St} {H : Hp} (Pv : Nat → St → Hp → Prop) (h0 : Pv 0 σ H) (hl : ∀ i σ H, i ≤ xs.length → Pv i σ H → SqT K H a xs)
    (hs : ∀ i x σ H, xs[i]? = some x → Pv i σ H → g x σ H fun σ2 H2 => tb { D with nx := Pv (i + 1), ct := Pv (i + 1), bk := D.nx } σ2 H2) (hd : ∀ σ H, Pv xs.length σ H → D.nx σ H) :
    ∃ W : Nat → Nat → St → Hp → Prop, (∃ m, W 0 m σ H) ∧ ∀ i m σ H, W i m σ H →
      ((Itt K a).stop i H ∧ D.nx σ H) ∨ ((Itt K a).go i H ∧ ∃ N : St → Hp → Prop, (∀ σ' H', N σ' H' → ∃ m', m' < m ∧ W (i + 1) m' σ' H') ∧ ∀ x H', (Itt K a).yld i H x H' → g x σ H' fun σ2 H2 => tb { D with nx := N, ct := N, bk := D.nx } σ2 H2) := by
  refine ⟨fun i m σ H => m = xs.length - i ∧ i ≤ xs.length ∧ Pv i σ H, ⟨xs.length, by simp, Nat.zero_le _, h0⟩, ?_⟩
  rintro i m σ H ⟨rfl, hi, p⟩
  have q := hl i σ H hi p
  by_cases hlt : i < xs.length
  · refine .inr ⟨⟨xs, xs[i], q, by simp [hlt]⟩, Pv (i + 1), fun σ' H' p' => ⟨xs.length - (i + 1), by omega, rfl, hlt, p'⟩, fun x H' y => ?_⟩
    obtain ⟨e, y⟩ := y
    subst e
    exact hs i x σ _ (y xs q) p
  · have e : i = xs.length := by omega
    subst e
    exact .inl ⟨⟨xs, q, Nat.le_refl _⟩, hd σ H p⟩
theorem for_range {lo : Int} {n : Nat} {g : TG} {tb : TS} {D : Ends} {σ : St} {H : Hp} (Pv : Nat → St → Hp → Prop) (h0 : Pv 0 σ H)
    (hs : ∀ i σ H, i < n → Pv i σ H → g (.int (lo + i)) σ H fun σ2 H2 => tb { D with nx := Pv (i + 1), ct := Pv (i + 1), bk := D.nx } σ2 H2) (hd : ∀ σ H, Pv n σ H → D.nx σ H) :
    ∃ W : Nat → Nat → St → Hp → Prop, (∃ m, W 0 m σ H) ∧ ∀ i m σ H, W i m σ H →
      ((Itr lo n).stop i H ∧ D.nx σ H) ∨ ((Itr lo n).go i H ∧ ∃ N : St → Hp → Prop, (∀ σ' H', N σ' H' → ∃ m', m' < m ∧ W (i + 1) m' σ' H') ∧ ∀ x H', (Itr lo n).yld i H x H' → g x σ H' fun σ2 H2 => tb { D with nx := N, ct := N, bk := D.nx } σ2 H2) := by
  refine ⟨fun i m σ H => m = n - i ∧ i ≤ n ∧ Pv i σ H, ⟨n, by simp, Nat.zero_le _, h0⟩, ?_⟩
  rintro i m σ H ⟨rfl, hi, p⟩
  by_cases hlt : i < n
  · refine .inr ⟨hlt, Pv (i + 1), fun σ' H' p' => ⟨n - (i + 1), by omega, rfl, hlt, p'⟩, fun x H' y => ?_⟩
    obtain ⟨e, y⟩ := y
    subst e y
    exact hs i σ _ hlt p
  · have e : i = n := by omega
    subst e
    exact .inl ⟨Nat.le_refl _, hd σ H p⟩
/-- while, by a word and a measure of the state -/
theorem while_by {c : TT} {tb : TS} {D : Ends} {σ : St} {H : Hp} (Pv : St → Hp → Prop) (μ : St → Hp → Nat) (h0 : Pv σ H)
    (hs : ∀ σ H, Pv σ H → c σ H fun b H1 => if b = true then tb { D with nx := fun σ' H' => Pv σ' H' ∧ μ σ' H' < μ σ H, ct := fun σ' H' => Pv σ' H' ∧ μ σ' H' < μ σ H, bk := D.nx } σ H1 else D.nx σ H1)
    (mono : ∀ σ H Q Q', (∀ b H1, Q b H1 → Q' b H1) → c σ H Q → c σ H Q') : tWhile c tb D σ H := by
  refine ⟨fun m σ H => m = μ σ H ∧ Pv σ H, ⟨_, rfl, h0⟩, ?_⟩
  rintro m σ H ⟨rfl, p⟩
  refine mono σ H _ _ (fun b H1 q => ?_) (hs σ H p)
  cases b with
  | true => exact ⟨_, fun σ' H' ⟨p', l⟩ => ⟨_, l, rfl, p'⟩, q⟩
  | false => exact q
end L2

namespace L2
open PySem PySem.Spec PyProof.Rows

abbrev R2 := V → V → Hp → VK → Prop
/-- a two-place operation on values: f is binaryOp op, inplaceOp op or compareOp op -/
def OpR (X : Cx) (f : Value → Value → Sem Value) (r : R2) : Prop :=
  ∀ (pins : List (Addr × Obj)) (s : Shared) (σ : St) (H : Hp) (x y : V) (v u : Value) (Q : VK), Inv X pins σ H s → RelV x v → RelV y u → r x y H Q →
    wpAny (model X.prog X.w) X.A (f v u) (EP X pins σ Q) X.xe s
/-- a one-place operation -/
def UnR (X : Cx) (f : Value → Sem Value) (r : V → Hp → VK → Prop) : Prop :=
  ∀ (pins : List (Addr × Obj)) (s : Shared) (σ : St) (H : Hp) (x : V) (v : Value) (Q : VK), Inv X pins σ H s → RelV x v → r x H Q →
    wpAny (model X.prog X.w) X.A (f v) (EP X pins σ Q) X.xe s
/-- a call of a value that is known (a builtin, a type) with values -/
def CallR (X : Cx) (f : Value) (r : List V → Hp → VK → Prop) : Prop :=
  ∀ (pins : List (Addr × Obj)) (s : Shared) (σ : St) (H : Hp) (xs : List V) (us : List Value) (Q : VK), Inv X pins σ H s → Vals xs us → r xs H Q →
    wpAny (model X.prog X.w) X.A (call f us) (EP X pins σ Q) X.xe s
/-- a value's truth -/
def TruR (X : Cx) (r : V → Hp → (Bool → Hp → Prop) → Prop) : Prop :=
  ∀ (pins : List (Addr × Obj)) (s : Shared) (σ : St) (H : Hp) (x : V) (v : Value) (Q : Bool → Hp → Prop), Inv X pins σ H s → RelV x v → r x H Q →
    wpAny (model X.prog X.w) X.A (truthy v) (TP X pins σ Q) X.xe s

def tOp (r : R2) (ta tb : TE) : TE := fun σ H Q => ta σ H fun x H1 => tb σ H1 fun y H2 => r x y H2 Q
def tUn (r : V → Hp → VK → Prop) (ta : TE) : TE := fun σ H Q => ta σ H fun x H1 => r x H1 Q
/-- ints in, under C, and a value out -/
def rI (C : Int → Int → Prop) (g : Int → Int → V) : R2 := fun x y H Q => ∃ i j, x = .int i ∧ y = .int j ∧ C i j ∧ Q (g i j) H
def rI0 (g : Int → Int → V) : R2 := fun x y H Q => ∃ i j, x = .int i ∧ y = .int j ∧ Q (g i j) H
def rU (g : Int → V) : V → Hp → VK → Prop := fun x H Q => ∃ i, x = .int i ∧ Q (g i) H

section
variable {X : Cx} {a b c : Expr} {ta tb tc : TE} {pos : Pos}

theorem binT (ha : PE X a ta) (hb : PE X b tb) {pins : List (Addr × Obj)} {s : Shared} {σ : St} {H : Hp} {R : V → V → Hp → Prop} (I : Inv X pins σ H s)
    (h : ta σ H fun x H1 => tb σ H1 fun y H2 => R x y H2) {Q : Value → Shared → Prop} {f : Value → Value → Sem Value}
    (hf : ∀ v u s2 x y H2, Inv X pins σ H2 s2 → RelV x v → RelV y u → R x y H2 → wpAny (model X.prog X.w) X.A (f v u) Q X.xe s2) :
    wpAny (model X.prog X.w) X.A (eval a X.env) (fun v s₁ => wpAny (model X.prog X.w) X.A (eval b X.env) (fun u s₂ => wpAny (model X.prog X.w) X.A (f v u) Q X.xe s₂) X.xe s₁) X.xe s := by
  refine thn (ha pins s σ H _ I h) fun v s1 ⟨x, H1, I1, r1, q1⟩ => ?_
  refine thn (hb pins s1 σ H1 _ I1 q1) fun u s2 ⟨y, H2, I2, r2, q2⟩ => ?_
  exact hf v u s2 x y H2 I2 r1 r2 q2

theorem pe_op {op : Operator} {r : R2} (ho : OpR X (binaryOp op) r) (ha : PE X a ta) (hb : PE X b tb) : PE X (.BinOp a op b pos) (tOp r ta tb) := by
  intro pins s σ H Q I h
  exact wpAny_BinOp (binT ha hb I h fun v u s2 x y H2 I2 rx ry q => ho pins s2 σ H2 x y v u Q I2 rx ry q)
theorem pe_un {op : UnaryOp} {r : V → Hp → VK → Prop} (ho : UnR X (unaryOp op) r) (ha : PE X a ta) : PE X (.UnaryOp op a pos) (tUn r ta) := by
  intro pins s σ H Q I h
  exact UnaryOp_ (thn (ha pins s σ H _ I h) fun v s1 ⟨x, H1, I1, r1, q1⟩ => ho pins s1 σ H1 x v Q I1 r1 q1)
/-- a op= e at a name: the name's slot i -/
theorem augR {op : Operator} {r : R2} (ho : OpR X (inplaceOp op) r) {pins : List (Addr × Obj)} {s : Shared} {σ : St} {H : Hp} {x y : V} {v u : Value} {Q : VK} (I : Inv X pins σ H s)
    (rx : RelV x v) (ry : RelV y u) (q : r x y H Q) : wpAny (model X.prog X.w) X.A (inplaceOp op v u) (EP X pins σ Q) X.xe s := ho pins s σ H x y v u Q I rx ry q

/-! ### ints -/
theorem opI {f : Value → Value → Sem Value} {C : Int → Int → Prop} {g : Int → Int → Int}
    (rule : ∀ (i j : Int) (t u : Tok) (s : Shared) (Q : Value → Shared → Prop) (E : Value → Shared → Prop), C i j → Q (.int (g i j) s.toks) { s with toks := s.toks + 1 } → wpAny (model X.prog X.w) X.A (f (.int i t) (.int j u)) Q E s) :
    OpR X f (rI C fun i j => .int (g i j)) := by
  intro pins s σ H x y v u Q I rx ry h
  obtain ⟨i, j, rfl, rfl, hc, q⟩ := h
  obtain ⟨t, rfl⟩ := rx
  obtain ⟨t', rfl⟩ := ry
  exact rule i j t t' s _ _ hc ⟨.int (g i j), H, I.tok _, ⟨_, rfl⟩, q⟩
theorem opI0 {f : Value → Value → Sem Value} {g : Int → Int → Int}
    (rule : ∀ (i j : Int) (t u : Tok) (s : Shared) (Q : Value → Shared → Prop) (E : Value → Shared → Prop), Q (.int (g i j) s.toks) { s with toks := s.toks + 1 } → wpAny (model X.prog X.w) X.A (f (.int i t) (.int j u)) Q E s) :
    OpR X f (rI0 fun i j => .int (g i j)) := by
  intro pins s σ H x y v u Q I rx ry h
  obtain ⟨i, j, rfl, rfl, q⟩ := h
  obtain ⟨t, rfl⟩ := rx
  obtain ⟨t', rfl⟩ := ry
  exact rule i j t t' s _ _ ⟨.int (g i j), H, I.tok _, ⟨_, rfl⟩, q⟩
theorem opB0 {f : Value → Value → Sem Value} {g : Int → Int → Bool}
    (rule : ∀ (i j : Int) (t u : Tok) (s : Shared) (Q : Value → Shared → Prop) (E : Value → Shared → Prop), Q (.bool (g i j)) s → wpAny (model X.prog X.w) X.A (f (.int i t) (.int j u)) Q E s) :
    OpR X f (rI0 fun i j => .bl (g i j)) := by
  intro pins s σ H x y v u Q I rx ry h
  obtain ⟨i, j, rfl, rfl, q⟩ := h
  obtain ⟨t, rfl⟩ := rx
  obtain ⟨t', rfl⟩ := ry
  exact rule i j t t' s _ _ ⟨.bl (g i j), H, I, rfl, q⟩

def CDiv (i j : Int) : Prop := 0 < j ∧ j < 1073741824
def CDivN (i j : Int) : Prop := j ≠ 0 ∧ j.natAbs < 1073741824
def CPow (i j : Int) : Prop := 0 ≤ j ∧ j ≤ 1000000 ∧ i.natAbs < 2 ^ 64
def CMul (i j : Int) : Prop := (-(2 ^ 64) < i ∧ i < 2 ^ 64) ∨ (-(2 ^ 64) < j ∧ j < 2 ^ 64)
theorem CMul.ok {i j : Int} (h : CMul i j) : IntMulOk i j := by
  rcases h with ⟨h1, h2⟩ | ⟨h1, h2⟩
  · exact .of_left (intBits_le_64 h1 h2)
  · exact .of_right (intBits_le_64 h1 h2)
theorem two_pow_nn (k : Nat) : (0 : Int) ≤ 2 ^ k := by
  rw [two_pow_cast]
  exact Int.natCast_nonneg _

theorem op_add : OpR X (binaryOp .Add) (rI0 fun i j => .int (i + j)) := opI0 fun _ _ _ _ _ _ _ q => add_int q
theorem op_sub : OpR X (binaryOp .Sub) (rI0 fun i j => .int (i - j)) := opI0 fun _ _ _ _ _ _ _ q => sub_int q
theorem op_mul : OpR X (binaryOp .Mult) (rI CMul fun i j => .int (i * j)) := opI fun _ _ _ _ _ _ _ hc q => mul_int q hc.ok
/-- // by a positive divisor -/
theorem op_fdiv : OpR X (binaryOp .FloorDiv) (rI CDiv fun i j => .int (i / j)) := opI fun i j _ _ _ _ _ hc q => by
  have h1 : (0 : Int) < j := hc.1
  have h2 : j < 1073741824 := hc.2
  exact floordiv_int (by omega) (by rw [Int.fdiv_eq_ediv_of_nonneg i (by omega)]; exact q) (.inl (PyProof.noPylong_small (by omega)))
theorem op_fdivN : OpR X (binaryOp .FloorDiv) (rI CDivN fun i j => .int (i.fdiv j)) := opI fun _ _ _ _ _ _ _ hc q => floordiv_int hc.1 q (.inl (PyProof.noPylong_small hc.2))
/-- % by a positive divisor of any size -/
theorem op_mod : OpR X (binaryOp .Mod) (rI (fun _ j => 0 < j) fun i j => .int (i % j)) := opI fun i j _ _ _ _ _ hc q => by
  have h1 : (0 : Int) < j := hc
  exact mod_int' (by omega) (by rw [Int.fmod_eq_emod_of_nonneg i (by omega)]; exact q)
theorem op_modN : OpR X (binaryOp .Mod) (rI (fun _ j => j ≠ 0) fun i j => .int (i.fmod j)) := opI fun _ _ _ _ _ _ _ hc q => mod_int' hc q
theorem op_pow : OpR X (binaryOp .Pow) (rI CPow fun i j => .int (i ^ j.toNat)) := opI fun _ _ _ _ _ _ _ hc q => pow_int_small hc.1 hc.2.1 hc.2.2 q
theorem op_shl : OpR X (binaryOp .LShift) (rI CPow fun i j => .int (i * 2 ^ j.toNat)) := opI fun _ _ _ _ _ _ _ hc q => lshift_int_small hc.1 hc.2.1 hc.2.2 q
theorem op_shr : OpR X (binaryOp .RShift) (rI (fun _ j => 0 ≤ j) fun i j => .int (i / 2 ^ j.toNat)) := opI fun i j _ _ _ _ _ hc q =>
  rshift_int hc (by rw [Int.fdiv_eq_ediv_of_nonneg i (two_pow_nn _)]; exact q)
theorem op_and : OpR X (binaryOp .BitAnd) (rI0 fun i j => .int (Builtin.bitAnd i j)) := opI0 fun _ _ _ _ _ _ _ q => and_int q
theorem op_or : OpR X (binaryOp .BitOr) (rI0 fun i j => .int (Builtin.bitOr i j)) := opI0 fun _ _ _ _ _ _ _ q => or_int q
theorem op_xor : OpR X (binaryOp .BitXor) (rI0 fun i j => .int (Builtin.bitXor i j)) := opI0 fun _ _ _ _ _ _ _ q => xor_int q

theorem iop_add : OpR X (inplaceOp .Add) (rI0 fun i j => .int (i + j)) := opI0 fun _ _ _ _ _ _ _ q => iadd_int q
theorem iop_sub : OpR X (inplaceOp .Sub) (rI0 fun i j => .int (i - j)) := opI0 fun _ _ _ _ _ _ _ q => isub_int q
theorem iop_mul : OpR X (inplaceOp .Mult) (rI CMul fun i j => .int (i * j)) := opI fun _ _ _ _ _ _ _ hc q => imul_int q hc.ok
theorem iop_fdiv : OpR X (inplaceOp .FloorDiv) (rI CDiv fun i j => .int (i / j)) := opI fun i j _ _ _ _ _ hc q => by
  have h1 : (0 : Int) < j := hc.1
  have h2 : j < 1073741824 := hc.2
  exact ifloordiv_int (by omega) (by rw [Int.fdiv_eq_ediv_of_nonneg i (by omega)]; exact q) (.inl (PyProof.noPylong_small (by omega)))
theorem iop_mod : OpR X (inplaceOp .Mod) (rI (fun _ j => 0 < j) fun i j => .int (i % j)) := opI fun i j _ _ _ _ _ hc q => by
  have h1 : (0 : Int) < j := hc
  exact imod_int (by omega) (by rw [Int.fmod_eq_emod_of_nonneg i (by omega)]; exact q)
theorem iop_shl : OpR X (inplaceOp .LShift) (rI CPow fun i j => .int (i * 2 ^ j.toNat)) := opI fun _ _ _ _ _ _ _ hc q => ilshift_int_small hc.1 hc.2.1 hc.2.2 q
theorem iop_shr : OpR X (inplaceOp .RShift) (rI (fun _ j => 0 ≤ j) fun i j => .int (i / 2 ^ j.toNat)) := opI fun i j _ _ _ _ _ hc q =>
  irshift_int hc (by rw [Int.fdiv_eq_ediv_of_nonneg i (two_pow_nn _)]; exact q)
theorem iop_and : OpR X (inplaceOp .BitAnd) (rI0 fun i j => .int (Builtin.bitAnd i j)) := opI0 fun _ _ _ _ _ _ _ q => iand_int q
theorem iop_or : OpR X (inplaceOp .BitOr) (rI0 fun i j => .int (Builtin.bitOr i j)) := opI0 fun _ _ _ _ _ _ _ q => ior_int q
theorem iop_xor : OpR X (inplaceOp .BitXor) (rI0 fun i j => .int (Builtin.bitXor i j)) := opI0 fun _ _ _ _ _ _ _ q => ixor_int q

theorem unI {f : Value → Sem Value} {g : Int → Int}
    (rule : ∀ (i : Int) (t : Tok) (s : Shared) (Q : Value → Shared → Prop) (E : Value → Shared → Prop), Q (.int (g i) s.toks) { s with toks := s.toks + 1 } → wpAny (model X.prog X.w) X.A (f (.int i t)) Q E s) :
    UnR X f (rU fun i => .int (g i)) := by
  intro pins s σ H x v Q I rx h
  obtain ⟨i, rfl, q⟩ := h
  obtain ⟨t, rfl⟩ := rx
  exact rule i t s _ _ ⟨.int (g i), H, I.tok _, ⟨_, rfl⟩, q⟩
theorem un_neg : UnR X (unaryOp .USub) (rU fun i => .int (-i)) := unI fun _ _ _ _ _ q => neg_int q
theorem un_inv : UnR X (unaryOp .Invert) (rU fun i => .int (Builtin.bitNot i)) := unI fun _ _ _ _ _ q => invert_int q

/-! ### bools among ints: n += (a < b) -/
theorem op_add_ib : OpR X (binaryOp .Add) (fun x y H Q => ∃ i k, x = .int i ∧ y = .bl k ∧ Q (.int (i + b2i k)) H) := by
  intro pins s σ H x y v u Q I rx ry h
  obtain ⟨i, k, rfl, rfl, q⟩ := h
  obtain ⟨t, rfl⟩ := rx
  cases ry
  exact add_int_bool ⟨.int (i + b2i k), H, I.tok _, ⟨_, rfl⟩, q⟩
end

/-! ### comparisons -/
/-- the scalars that == tells apart as data does -/
def scal : V → V → Bool
  | .non, .non => true | .non, .int _ => true | .int _, .non => true | .non, .bl _ => true | .bl _, .non => true | .non, .str _ => true | .str _, .non => true
  | .int _, .int _ => true | .bl _, .bl _ => true | .str _, .str _ => true | .byt _, .byt _ => true
  | .int _, .str _ => true | .str _, .int _ => true | .bl _, .str _ => true | .str _, .bl _ => true
  | _, _ => false
def rEq : R2 := fun x y H Q => scal x y = true ∧ Q (.bl (decide (x = y))) H
def rNe : R2 := fun x y H Q => scal x y = true ∧ Q (.bl (!decide (x = y))) H

theorem dec_int {i j : Int} : decide (V.int i = V.int j) = (i == j) := by
  rw [Bool.eq_iff_iff]
  simp
theorem dec_bl {i j : Bool} : decide (V.bl i = V.bl j) = (i == j) := by
  rw [Bool.eq_iff_iff]
  simp
theorem dec_str {i j : Str} : decide (V.str i = V.str j) = (i == j) := by
  rw [Bool.eq_iff_iff]
  simp
theorem dec_byt {i j : Array UInt8} : decide (V.byt i = V.byt j) = (i.toList == j.toList) := by
  rw [Bool.eq_iff_iff]
  cases i
  cases j
  simp

section
variable {X : Cx} {a b c : Expr} {ta tb tc : TE} {pos : Pos}
theorem fin_bl {pins : List (Addr × Obj)} {σ : St} {H : Hp} {s : Shared} {Q : VK} {k k' : Bool} (I : Inv X pins σ H s) (q : Q (.bl k) H) (e : k = k') : EP X pins σ Q (.bool k') s := by
  subst e
  exact ⟨.bl k, H, I, rfl, q⟩
theorem op_eq : OpR X (compareOp .Eq) rEq := by
  intro pins s σ H x y v u Q I rx ry h
  obtain ⟨hs, q⟩ := h
  cases x with
  | non =>
    cases rx
    cases y with
    | non => cases ry; exact PySem.EqNone.eq_none_none (fin_bl I q (by simp))
    | bl j => cases ry; exact PySem.EqNone.eq_none_bool (fin_bl I q (by simp))
    | int j => obtain ⟨t', rfl⟩ := ry; exact PySem.EqNone.eq_none_int (fin_bl I q (by simp))
    | str j => obtain ⟨t', rfl⟩ := ry; exact PySem.EqNone.eq_none_str (fin_bl I q (by simp))
    | _ => exact absurd (show false = true from hs) Bool.false_ne_true
  | bl i =>
    cases rx
    cases y with
    | non => cases ry; exact PySem.EqNone.eq_bool_none (fin_bl I q (by simp))
    | bl j => cases ry; exact eq_bool (fin_bl I q dec_bl)
    | str j => obtain ⟨t', rfl⟩ := ry; exact PySem.EqMixed.eq_bool_str (fin_bl I q (by simp))
    | _ => exact absurd (show false = true from hs) Bool.false_ne_true
  | int i =>
    obtain ⟨t, rfl⟩ := rx
    cases y with
    | non => cases ry; exact PySem.EqNone.eq_int_none (fin_bl I q (by simp))
    | int j => obtain ⟨t', rfl⟩ := ry; exact eq_int (fin_bl I q dec_int)
    | str j => obtain ⟨t', rfl⟩ := ry; exact PySem.EqMixed.eq_int_str (fin_bl I q (by simp))
    | _ => exact absurd (show false = true from hs) Bool.false_ne_true
  | str i =>
    obtain ⟨t, rfl⟩ := rx
    cases y with
    | non => cases ry; exact PySem.EqNone.eq_str_none (fin_bl I q (by simp))
    | bl j => cases ry; exact PySem.EqMixed.eq_str_bool (fin_bl I q (by simp))
    | int j => obtain ⟨t', rfl⟩ := ry; exact PySem.EqMixed.eq_str_int (fin_bl I q (by simp))
    | str j => obtain ⟨t', rfl⟩ := ry; exact eq_str (fin_bl I q dec_str)
    | _ => exact absurd (show false = true from hs) Bool.false_ne_true
  | byt i =>
    obtain ⟨t, rfl⟩ := rx
    cases y with
    | byt j => obtain ⟨t', rfl⟩ := ry; exact PySem.W.eq_bytes (fin_bl I q dec_byt)
    | _ => exact absurd (show false = true from hs) Bool.false_ne_true
  | _ => cases y <;> exact absurd (show false = true from hs) Bool.false_ne_true
theorem op_ne : OpR X (compareOp .NotEq) rNe := by
  intro pins s σ H x y v u Q I rx ry h
  obtain ⟨hs, q⟩ := h
  cases x with
  | non =>
    cases rx
    cases y with
    | non => cases ry; exact PySem.EqNone.ne_none_none (fin_bl I q (by simp))
    | bl j => cases ry; exact PySem.EqNone.ne_none_bool (fin_bl I q (by simp))
    | int j => obtain ⟨t', rfl⟩ := ry; exact PySem.EqNone.ne_none_int (fin_bl I q (by simp))
    | str j => obtain ⟨t', rfl⟩ := ry; exact PySem.EqNone.ne_none_str (fin_bl I q (by simp))
    | _ => exact absurd (show false = true from hs) Bool.false_ne_true
  | bl i =>
    cases rx
    cases y with
    | non => cases ry; exact PySem.EqNone.ne_bool_none (fin_bl I q (by simp))
    | bl j => cases ry; exact ne_bool (fin_bl I q (congrArg not dec_bl))
    | str j => obtain ⟨t', rfl⟩ := ry; exact PySem.EqMixed.ne_bool_str (fin_bl I q (by simp))
    | _ => exact absurd (show false = true from hs) Bool.false_ne_true
  | int i =>
    obtain ⟨t, rfl⟩ := rx
    cases y with
    | non => cases ry; exact PySem.EqNone.ne_int_none (fin_bl I q (by simp))
    | int j => obtain ⟨t', rfl⟩ := ry; exact ne_int (fin_bl I q (congrArg not dec_int))
    | str j => obtain ⟨t', rfl⟩ := ry; exact PySem.EqMixed.ne_int_str (fin_bl I q (by simp))
    | _ => exact absurd (show false = true from hs) Bool.false_ne_true
  | str i =>
    obtain ⟨t, rfl⟩ := rx
    cases y with
    | non => cases ry; exact PySem.EqNone.ne_str_none (fin_bl I q (by simp))
    | bl j => cases ry; exact PySem.EqMixed.ne_str_bool (fin_bl I q (by simp))
    | int j => obtain ⟨t', rfl⟩ := ry; exact PySem.EqMixed.ne_str_int (fin_bl I q (by simp))
    | str j => obtain ⟨t', rfl⟩ := ry; exact ne_str (fin_bl I q (congrArg not dec_str))
    | _ => exact absurd (show false = true from hs) Bool.false_ne_true
  | byt i =>
    obtain ⟨t, rfl⟩ := rx
    cases y with
    | byt j => obtain ⟨t', rfl⟩ := ry; exact PySem.W.ne_bytes (fin_bl I q (congrArg not dec_byt))
    | _ => exact absurd (show false = true from hs) Bool.false_ne_true
  | _ => cases y <;> exact absurd (show false = true from hs) Bool.false_ne_true

theorem op_lt : OpR X (compareOp .Lt) (rI0 fun i j => .bl (decide (i < j))) := opB0 fun _ _ _ _ _ _ _ q => lt_int q
theorem op_le : OpR X (compareOp .LtE) (rI0 fun i j => .bl (decide (i ≤ j))) := opB0 fun _ _ _ _ _ _ _ q => le_int q
theorem op_gt : OpR X (compareOp .Gt) (rI0 fun i j => .bl (decide (j < i))) := opB0 fun _ _ _ _ _ _ _ q => gt_int q
theorem op_ge : OpR X (compareOp .GtE) (rI0 fun i j => .bl (decide (j ≤ i))) := opB0 fun _ _ _ _ _ _ _ q => ge_int q
theorem op_lt_str : OpR X (compareOp .Lt) (fun x y H Q => ∃ i j, x = .str i ∧ y = .str j ∧ Q (.bl (decide (i.cps.toList < j.cps.toList))) H) := by
  intro pins s σ H x y v u Q I rx ry h
  obtain ⟨i, j, rfl, rfl, q⟩ := h
  obtain ⟨t, rfl⟩ := rx
  obtain ⟨t', rfl⟩ := ry
  exact lt_str (fin_bl I q rfl)
/-- the one string within the other -/
theorem op_in_str : OpR X (compareOp .In) (fun x y H Q => ∃ i j, x = .str i ∧ y = .str j ∧ Q (.bl (!(Builtin.Str.occurrences j i 0 j.length 1).isEmpty)) H) := by
  intro pins s σ H x y v u Q I rx ry h
  obtain ⟨i, j, rfl, rfl, q⟩ := h
  obtain ⟨t, rfl⟩ := rx
  obtain ⟨t', rfl⟩ := ry
  exact in_str (fin_bl I q rfl)

/-- is None, is not None: the right side a value none -/
theorem op_isN : OpR X (compareOp .Is) (fun x y H Q => y = .non ∧ Q (.bl (decide (x = .non))) H) := by
  intro pins s σ H x y v u Q I rx ry h
  obtain ⟨rfl, q⟩ := h
  cases ry
  refine is_none_gen (fin_bl I q ?_)
  cases x <;> first
    | (cases rx; rfl)
    | (obtain ⟨t, rfl⟩ := rx; rfl)
theorem op_notN : OpR X (compareOp .IsNot) (fun x y H Q => y = .non ∧ Q (.bl (!decide (x = .non))) H) := by
  intro pins s σ H x y v u Q I rx ry h
  obtain ⟨rfl, q⟩ := h
  cases ry
  refine isnot_none_gen (fin_bl I q ?_)
  cases x <;> first
    | (cases rx; rfl)
    | (obtain ⟨t, rfl⟩ := rx; rfl)

theorem op_notin_str : OpR X (compareOp .NotIn) (fun x y H Q => ∃ i j, x = .str i ∧ y = .str j ∧ Q (.bl (!(!(Builtin.Str.occurrences j i 0 j.length 1).isEmpty))) H) := by
  intro pins s σ H x y v u Q I rx ry h
  obtain ⟨i, j, rfl, rfl, q⟩ := h
  obtain ⟨t, rfl⟩ := rx
  obtain ⟨t', rfl⟩ := ry
  exact notIn_str (fin_bl I q rfl)
/-- is, is not of two objects that are tracked lists or instances -/
def isObj : HO → Bool
  | .lst _ => true
  | .ins _ _ _ => true
  | _ => false
theorem obj_there {pins : List (Addr × Obj)} {s : Shared} {σ : St} {H : Hp} {a : Addr} {o : HO} (I : Inv X pins σ H s) (h : H a = some o) (p : isObj o = true) : ∃ ob, s.heap.get? a = some ob ∧ ob.cls ≠ .type "tuple" := by
  cases o with
  | lst xs =>
    obtain ⟨_, its, n, _, e⟩ : xs.length ≤ sizeLine ∧ ∃ (its : List Value) (n : Nat), Vals xs its ∧ s.heap.get? a = some { cls := .type "list", data := .seq its.toArray n } := I.hok a _ h
    exact ⟨_, e, (by show Value.type "list" ≠ .type "tuple"; decide +kernel)⟩
  | ins C dx fs =>
    have x := I.hok a _ h
    obtain ⟨_, _, _, e, _⟩ := x
    exact ⟨_, e, (by show Value.ref C ≠ .type "tuple"; exact fun z => by cases z)⟩
  | _ => exact absurd (show false = true from p) Bool.false_ne_true
theorem op_is_ref : OpR X (compareOp .Is) (fun x y H Q => ∃ a b oa ob, x = .ref a ∧ y = .ref b ∧ H a = some oa ∧ isObj oa = true ∧ H b = some ob ∧ isObj ob = true ∧ Q (.bl (decide (a = b))) H) := by
  intro pins s σ H x y v u Q I rx ry h
  obtain ⟨a, b, oa, ob, rfl, rfl, ha, pa, hb, pb, q⟩ := h
  cases rx
  cases ry
  obtain ⟨o1, e1, n1⟩ := obj_there I ha pa
  obtain ⟨o2, e2, _⟩ := obj_there I hb pb
  by_cases z : a = b
  · subst z
    exact wpAny_is_ref_self (fin_bl I q (by simp))
  · exact wpAny_is_ref_other z e1 e2 n1 (fin_bl I q (by simp [z]))
theorem op_isnot_ref : OpR X (compareOp .IsNot) (fun x y H Q => ∃ a b oa ob, x = .ref a ∧ y = .ref b ∧ H a = some oa ∧ isObj oa = true ∧ H b = some ob ∧ isObj ob = true ∧ Q (.bl (!decide (a = b))) H) := by
  intro pins s σ H x y v u Q I rx ry h
  obtain ⟨a, b, oa, ob, rfl, rfl, ha, pa, hb, pb, q⟩ := h
  cases rx
  cases ry
  obtain ⟨o1, e1, n1⟩ := obj_there I ha pa
  obtain ⟨o2, e2, _⟩ := obj_there I hb pb
  by_cases z : a = b
  · subst z
    exact wpAny_isNot_ref_self (fin_bl I q (by simp))
  · exact wpAny_isNot_ref_other z e1 e2 n1 (fin_bl I q (by simp [z]))

/-- two rules for one operation: by cases -/
theorem OpR.or {f : Value → Value → Sem Value} {r r' : R2} (h : OpR X f r) (h' : OpR X f r') : OpR X f (fun x y H Q => r x y H Q ∨ r' x y H Q) := by
  intro pins s σ H x y v u Q I rx ry q
  rcases q with q | q
  · exact h pins s σ H x y v u Q I rx ry q
  · exact h' pins s σ H x y v u Q I rx ry q

theorem nomark (b : Expr) {op : CmpOp} (h : op ≠ .In := by decide) (h2 : op ≠ .NotIn := by decide) : behindInMarks op b = false := by
  have e1 : (op == CmpOp.In) = false := by cases op <;> first | rfl | exact absurd rfl h
  have e2 : (op == CmpOp.NotIn) = false := by cases op <;> first | rfl | exact absurd rfl h2
  cases b <;> simp [behindInMarks, e1, e2]
/-- a comparison as a value; hm: nomark b, or (for in, not in) by with_unfolding_all rfl -/
theorem pe_cmpR {op : CmpOp} {r : R2} (ho : OpR X (compareOp op) r) (ha : PE X a ta) (hb : PE X b tb) (hm : behindInMarks op b = false) : PE X (.Compare a [op] [b] pos) (tOp r ta tb) := by
  intro pins s σ H Q I h
  exact wpAny_Compare1 (binT ha hb I h fun v u s2 x y H2 I2 rx ry q => ho pins s2 σ H2 x y v u Q I2 rx ry q) hm
/-- a reading of a value as a test -/
def tTest (t : TE) : TT := fun σ H Q => t σ H fun x H' => ∃ k, x = .bl k ∧ Q k H'
theorem pt_cmpR {op : CmpOp} {r : R2} (ho : OpR X (compareOp op) r) (ha : PE X a ta) (hb : PE X b tb) (hm : behindInMarks op b = false) : PT X (.Compare a [op] [b] pos) (tTest (tOp r ta tb)) := by
  intro pins s σ H Q I h
  refine wpAny_isTrue_Compare1 (thn (ha pins s σ H _ I h) fun v s1 ⟨x, H1, I1, r1, q1⟩ => thn (hb pins s1 σ H1 _ I1 q1) fun u s2 ⟨y, H2, I2, r2, q2⟩ =>
    thn (ho pins s2 σ H2 x y v u _ I2 r1 r2 q2) fun c s3 ⟨z, H3, I3, r3, k, e, q3⟩ => ?_) hm
  subst e
  cases r3
  exact wpAny_truthy_bool ⟨H3, I3, q3⟩
/-- a op1 b op2 c -/
def tChain (r r' : R2) (ta tb tc : TE) : TE := fun σ H Q => ta σ H fun x H1 => tb σ H1 fun y H2 => r x y H2 fun z H3 => ∃ k, z = .bl k ∧
  (if k = true then tc σ H3 fun w' H4 => r' y w' H4 Q else Q (.bl false) H3)
theorem pe_chain {op op' : CmpOp} {r r' : R2} (ho : OpR X (compareOp op) r) (ho' : OpR X (compareOp op') r') (ha : PE X a ta) (hb : PE X b tb) (hc : PE X c tc)
    (hm : lastMarks [op, op'] [b, c] = false := by with_unfolding_all rfl) : PE X (.Compare a [op, op'] [b, c] pos) (tChain r r' ta tb tc) := by
  intro pins s σ H Q I h
  refine Compare_chain (thn (ha pins s σ H _ I h) fun v s1 ⟨x, H1, I1, r1, q1⟩ => chain_link (thn (hb pins s1 σ H1 _ I1 q1) fun u s2 ⟨y, H2, I2, r2, q2⟩ =>
    thn (ho pins s2 σ H2 x y v u _ I2 r1 r2 q2) fun d s3 ⟨z, H3, I3, r3, k, e, q3⟩ => ?_)) hm
  subst e
  cases r3
  refine wpAny_truthy_bool ?_
  cases k with
  | false => exact ite_ff ⟨.bl false, H3, I3, rfl, q3⟩
  | true => exact ite_tt (chain_last (thn (hc pins s3 σ H3 _ I3 q3) fun w' s4 ⟨z', H4, I4, r4, q4⟩ => ho' pins s4 σ H4 y z' u w' Q I4 r2 r4 q4))
theorem pt_chain {op op' : CmpOp} {r r' : R2} (ho : OpR X (compareOp op) r) (ho' : OpR X (compareOp op') r') (ha : PE X a ta) (hb : PE X b tb) (hc : PE X c tc)
    (hm : lastMarks [op, op'] [b, c] = false := by with_unfolding_all rfl) : PT X (.Compare a [op, op'] [b, c] pos) (tTest (tChain r r' ta tb tc)) := by
  intro pins s σ H Q I h
  refine isTrue_chain (thn (ha pins s σ H _ I h) fun v s1 ⟨x, H1, I1, r1, q1⟩ => test_link (thn (hb pins s1 σ H1 _ I1 q1) fun u s2 ⟨y, H2, I2, r2, q2⟩ =>
    thn (ho pins s2 σ H2 x y v u _ I2 r1 r2 q2) fun d s3 ⟨z, H3, I3, r3, k, e, q3⟩ => ?_)) hm
  subst e
  cases r3
  refine wpAny_truthy_bool ?_
  cases k with
  | false =>
    obtain ⟨k', e', q'⟩ := q3
    cases e'
    exact ite_ff ⟨H3, I3, q'⟩
  | true =>
    refine ite_tt (test_last (thn (hc pins s3 σ H3 _ I3 q3) fun w' s4 ⟨z', H4, I4, r4, q4⟩ => thn (ho' pins s4 σ H4 y z' u w' _ I4 r2 r4 q4) fun d' s5 ⟨z2, H5, I5, r5, k2, e2, q5⟩ => ?_))
    subst e2
    cases r5
    exact wpAny_truthy_bool ⟨H5, I5, q5⟩

/-! ### truth -/
/-- a value's truth by the abstract heap -/
def TruV (K : PySem.W.Frag) (x : V) (H : Hp) (k : Bool) : Prop :=
  match x with
  | .non => k = false
  | .bl b => k = b
  | .int i => k = (i != 0)
  | .str y => y.length ≤ sizeLine ∧ k = ((y.length : Int) != 0)
  | .byt y => y.size ≤ sizeLine ∧ k = ((y.size : Int) != 0)
  | .ref p => (∃ xs, SqL K H p xs ∧ k = !xs.isEmpty) ∨ (∃ xs, SqT K H p xs ∧ k = !xs.isEmpty) ∨ ∃ kvs, H p = some (.dK kvs) ∧ k = !kvs.isEmpty
  | _ => False
theorem isEmpty_kv {κ : Type} {kvs : List (κ × V)} {vs : List (κ × Value)} (r : KV kvs vs) : (!vs.isEmpty) = !kvs.isEmpty := by
  cases r <;> rfl
theorem isEmpty_of {xs : List V} {its : List Value} (r : Vals xs its) : (!its.toArray.isEmpty) = !xs.isEmpty := by
  cases r <;> simp
theorem line63 : (sizeLine : Nat) < 2 ^ 63 := by rw [sizeLine_eq]; decide
theorem tru_ok : TruR X (fun x H Q => ∃ k, TruV X.K x H k ∧ Q k H) := by
  intro pins s σ H x v Q I rx h
  obtain ⟨k, e, q⟩ := h
  have hl := line63
  have hs : sizeLine = 16777216 := sizeLine_eq
  cases x with
  | non =>
    cases rx
    have e' : k = false := e
    subst e'
    exact truthy_none ⟨H, I, q⟩
  | bl b =>
    cases rx
    have e' : k = b := e
    subst e'
    exact wpAny_truthy_bool ⟨H, I, q⟩
  | int i =>
    obtain ⟨t, rfl⟩ := rx
    have e' : k = (i != 0) := e
    subst e'
    exact PySem.P.truthy_int ⟨H, I, q⟩
  | str y =>
    obtain ⟨t, rfl⟩ := rx
    obtain ⟨hy, e'⟩ : y.length ≤ sizeLine ∧ k = ((y.length : Int) != 0) := e
    subst e'
    exact PySem.P.truthy_str (by omega) ⟨H, I.tok _, q⟩
  | byt y =>
    obtain ⟨t, rfl⟩ := rx
    obtain ⟨hy, e'⟩ : y.size ≤ sizeLine ∧ k = ((y.size : Int) != 0) := e
    subst e'
    exact PySem.W.truthy_bytes (by omega) ⟨H, I.tok _, q⟩
  | ref p =>
    cases rx
    have e' : (∃ xs, SqL X.K H p xs ∧ k = !xs.isEmpty) ∨ (∃ xs, SqT X.K H p xs ∧ k = !xs.isEmpty) ∨ ∃ kvs, H p = some (.dK kvs) ∧ k = !kvs.isEmpty := e
    rcases e' with ⟨xs, hx, e'⟩ | ⟨xs, hx, e'⟩ | ⟨kvs, hx, e'⟩
    · subst e'
      obtain ⟨its, r, pl, hz⟩ := I.list hx
      have hlen := r.length
      exact wpAny_truthy_list pl.isList (by simp only [List.size_toArray]; omega) ⟨H, I.tok _, by rw [isEmpty_of r]; exact q⟩
    · subst e'
      obtain ⟨its, r, pl, hz⟩ := I.tuple hx
      have hlen := r.length
      exact truthy_tuple pl (by simp only [List.size_toArray]; omega) ⟨H, I.tok _, by rw [isEmpty_of r]; exact q⟩
    · subst e'
      obtain ⟨hz, hS, vs, r, m⟩ : kvs.length ≤ sizeLine ∧ (p == sysModules) = false ∧ ∃ vs, KV kvs vs ∧ s.heap.DictOf (mixKind X.prog X.w) p vs := I.hok p _ hx
      have hlen : kvs.length = vs.length := Paired.length r
      exact wpAny_truthy_dict hS m (by omega) ⟨H, I.tok _, by rw [isEmpty_kv r]; exact q⟩
  | _ => exact (show False from e).elim
/-- any expression whose test is its value's truth (a name, a call, a subscript, a field ..: he by fun _ => rfl) -/
theorem pt_truth (ha : PE X a ta) (he : ∀ whole, isTrue a X.env whole = (do let v ← whole; standAt a.pos; holding [v] (truthy v))) :
    PT X a (fun σ H Q => ta σ H fun x H' => ∃ k, TruV X.K x H' k ∧ Q k H') := by
  intro pins s σ H Q I h
  exact isTrue_plain (thn (ha pins s σ H _ I h) fun v s1 ⟨x, H1, I1, r1, q1⟩ => tru_ok pins s1 σ H1 x v Q I1 r1 q1) (he _)

/-! ### strs and bytes -/
theorem pe_byt {x : List UInt8} {k : Nat} : PE X (.Constant (.bytes x) k pos) (fun _ H Q => Q (.byt x.toArray) H) := fun _ _ _ H _ I h => PySem.W.Constant_bytes ⟨.byt x.toArray, H, I.tok _, ⟨_, rfl⟩, h⟩
theorem op_add_str : OpR X (binaryOp .Add) (fun x y H Q => ∃ i j, x = .str i ∧ y = .str j ∧ i.length + j.length ≤ sizeLine ∧ Q (.str (i ++ j)) H) := by
  intro pins s σ H x y v u Q I rx ry h
  obtain ⟨i, j, rfl, rfl, hz, q⟩ := h
  obtain ⟨t, rfl⟩ := rx
  obtain ⟨t', rfl⟩ := ry
  exact add_str (fun t' tk => ⟨.str (i ++ j), H, I.tok _, ⟨_, rfl⟩, q⟩) hz
theorem iop_add_str : OpR X (inplaceOp .Add) (fun x y H Q => ∃ i j, x = .str i ∧ y = .str j ∧ i.length + j.length ≤ sizeLine ∧ Q (.str (i ++ j)) H) := by
  intro pins s σ H x y v u Q I rx ry h
  obtain ⟨i, j, rfl, rfl, hz, q⟩ := h
  obtain ⟨t, rfl⟩ := rx
  obtain ⟨t', rfl⟩ := ry
  exact iadd_str (fun t' tk => ⟨.str (i ++ j), H, I.tok _, ⟨_, rfl⟩, q⟩) hz
theorem op_add_byt : OpR X (binaryOp .Add) (fun x y H Q => ∃ i j, x = .byt i ∧ y = .byt j ∧ i.size + j.size ≤ 16777216 ∧ Q (.byt (i ++ j)) H) := by
  intro pins s σ H x y v u Q I rx ry h
  obtain ⟨i, j, rfl, rfl, hz, q⟩ := h
  obtain ⟨t, rfl⟩ := rx
  obtain ⟨t', rfl⟩ := ry
  exact PySem.W.KBy.add_bytes hz (fun t' tk => ⟨.byt (i ++ j), H, I.tok _, ⟨_, rfl⟩, q⟩)

def PlainIxT (b : Expr) : Prop := ∀ o i, subscripted b false o i = operate [o, i] (getItem o i)
/-- s[i], 0 ≤ i < len -/
theorem pe_item_str (ha : PE X a ta) (hb : PE X b tb) (hs : PlainIxT b) :
    PE X (.Subscript a b pos) (tOp (fun x y H Q => ∃ z i c, x = .str z ∧ y = .int i ∧ 0 ≤ i ∧ i < 2 ^ 63 ∧ i < z.length ∧ z.cps[i.toNat]? = some c ∧ Q (.str ⟨#[c]⟩) H) ta tb) := by
  intro pins s σ H Q I h
  refine Subscript_ (binT ha hb I h fun v u s2 x y H2 I2 rx ry q => ?_)
  obtain ⟨z, i, c, rfl, rfl, h0, h63, h1, hc, q⟩ := q
  obtain ⟨t, rfl⟩ := rx
  obtain ⟨t', rfl⟩ := ry
  have e : seqIndex? i z.length = some i.toNat := PySem.StrLaws.seqIndex_nonneg h0 h1
  exact tail_any (typeIs_str s2 z t) slot_str_getitem.lookup (getItem_str (c := c) (by
    have e1 : decide (i < -(2 ^ 63 : Int)) = false := decide_eq_false (by omega)
    have e2 : decide (i ≥ 2 ^ 63) = false := decide_eq_false (by omega)
    rw [e1, e2] <;> rfl) (by rw [e]; exact hc) ⟨.str ⟨#[c]⟩, H2, I2.tok _, ⟨_, rfl⟩, q⟩) (hs _ _)
/-- b[i], 0 ≤ i < len -/
theorem pe_item_byt (ha : PE X a ta) (hb : PE X b tb) (hs : PlainIxT b) :
    PE X (.Subscript a b pos) (tOp (fun x y H Q => ∃ (z : List UInt8) (i : Int), x = .byt z.toArray ∧ y = .int i ∧ z.length ≤ sizeLine ∧ 0 ≤ i ∧ i < z.length ∧ Q (.int ((z.getD i.toNat 0).toNat : Nat)) H) ta tb) := by
  intro pins s σ H Q I h
  refine Subscript_ (binT ha hb I h fun v u s2 x y H2 I2 rx ry q => ?_)
  obtain ⟨z, i, rfl, rfl, hz, h0, h1, q⟩ := q
  obtain ⟨t, rfl⟩ := rx
  obtain ⟨t', rfl⟩ := ry
  have hl : sizeLine = 16777216 := sizeLine_eq
  exact tail_any (PySem.W.typeIs_bytes s2 z.toArray t) PySem.W.FB.slot_bytes_getitem.lookup (PySem.W.getItem_bytes (by omega) h0 h1 ⟨.int ((z.getD i.toNat 0).toNat : Nat), H2, I2.tok _, ⟨_, rfl⟩, q⟩) (hs _ _)

/-! ### scalar builtins, by CallR -/
theorem vals1 {x : V} {us : List Value} (r : Vals [x] us) : ∃ u, us = [u] ∧ RelV x u := by
  cases r with
  | cons r1 r2 => cases r2; exact ⟨_, rfl, r1⟩
theorem vals2 {x y : V} {us : List Value} (r : Vals [x, y] us) : ∃ u w', us = [u, w'] ∧ RelV x u ∧ RelV y w' := by
  cases r with
  | cons r1 r2 =>
    cases r2 with
    | cons r3 r4 => cases r4; exact ⟨_, _, rfl, r1, r3⟩
theorem call_abs : CallR X (.builtin "abs") (fun xs H Q => ∃ i, xs = [.int i] ∧ Q (.int (if i < 0 then -i else i)) H) := by
  intro pins s σ H xs us Q I r h
  obtain ⟨i, rfl, q⟩ := h
  obtain ⟨u, rfl, t, rfl⟩ := vals1 r
  exact call_abs_int fun u tk => ⟨.int (if i < 0 then -i else i), H, I.tok _, ⟨_, rfl⟩, q⟩
theorem call_max2 (hc : X.calm = true) : CallR X (.builtin "max") (fun xs H Q => ∃ i j, xs = [.int i, .int j] ∧ Q (.int (if j > i then j else i)) H) := by
  intro pins s σ H xs us Q I r h
  obtain ⟨i, j, rfl, q⟩ := h
  obtain ⟨u, w', rfl, ⟨t, rfl⟩, ⟨t', rfl⟩⟩ := vals2 r
  refine max_two_ints (I.ok.hd hc) fun h' tk k => ⟨_, H, I.kept k, ?_, q⟩
  by_cases hj : j > i
  · rw [if_pos hj, if_pos hj]; exact ⟨_, rfl⟩
  · rw [if_neg hj, if_neg hj]; exact ⟨_, rfl⟩
theorem call_min2 (hc : X.calm = true) : CallR X (.builtin "min") (fun xs H Q => ∃ i j, xs = [.int i, .int j] ∧ Q (.int (if j < i then j else i)) H) := by
  intro pins s σ H xs us Q I r h
  obtain ⟨i, j, rfl, q⟩ := h
  obtain ⟨u, w', rfl, ⟨t, rfl⟩, ⟨t', rfl⟩⟩ := vals2 r
  refine min_two_ints (I.ok.hd hc) fun h' tk k => ⟨_, H, I.kept k, ?_, q⟩
  by_cases hj : j < i
  · rw [if_pos hj, if_pos hj]; exact ⟨_, rfl⟩
  · rw [if_neg hj, if_neg hj]; exact ⟨_, rfl⟩
theorem call_int1 : CallR X (.type "int") (fun xs H Q => (∃ i, xs = [.int i] ∧ Q (.int i) H) ∨ ∃ k, xs = [.bl k] ∧ Q (.int (if k then 1 else 0)) H) := by
  intro pins s σ H xs us Q I r h
  rcases h with ⟨i, rfl, q⟩ | ⟨k, rfl, q⟩
  · obtain ⟨u, rfl, t, rfl⟩ := vals1 r
    exact call_int_int ⟨.int i, H, I, ⟨_, rfl⟩, q⟩
  · obtain ⟨u, rfl, r1⟩ := vals1 r
    cases r1
    exact call_int_bool ⟨.int (if k then 1 else 0), H, I.tok _, ⟨_, rfl⟩, q⟩
theorem call_bool1 : CallR X (.type "bool") (fun xs H Q => (∃ i, xs = [.int i] ∧ Q (.bl (i != 0)) H) ∨ ∃ k, xs = [.bl k] ∧ Q (.bl k) H) := by
  intro pins s σ H xs us Q I r h
  rcases h with ⟨i, rfl, q⟩ | ⟨k, rfl, q⟩
  · obtain ⟨u, rfl, t, rfl⟩ := vals1 r
    exact call_bool_int ⟨.bl (i != 0), H, I, rfl, q⟩
  · obtain ⟨u, rfl, r1⟩ := vals1 r
    cases r1
    exact call_bool_bool ⟨.bl k, H, I, rfl, q⟩
theorem call_str_int : CallR X (.type "str") (fun xs H Q => ∃ i, xs = [.int i] ∧ i.natAbs.log2 < 1920 ∧ Q (.str (toString i)) H) := by
  intro pins s σ H xs us Q I r h
  obtain ⟨i, rfl, hz, q⟩ := h
  obtain ⟨u, rfl, t, rfl⟩ := vals1 r
  exact PySem.P.str_of_int hz ⟨.str _, H, I.tok _, ⟨_, rfl⟩, q⟩
theorem call_ord : CallR X (.builtin "ord") (fun xs H Q => ∃ x, xs = [.str x] ∧ x.length = 1 ∧ Q (.int (x.cps.getD 0 0 : Nat)) H) := by
  intro pins s σ H xs us Q I r h
  obtain ⟨x, rfl, hz, q⟩ := h
  obtain ⟨u, rfl, t, rfl⟩ := vals1 r
  exact ord_of_one hz ⟨.int _, H, I.tok _, ⟨_, rfl⟩, q⟩
theorem call_chr : CallR X (.builtin "chr") (fun xs H Q => ∃ i, xs = [.int i] ∧ 0 ≤ i ∧ i ≤ 1114111 ∧ Q (.str ⟨#[i.toNat]⟩) H) := by
  intro pins s σ H xs us Q I r h
  obtain ⟨i, rfl, h0, h1, q⟩ := h
  obtain ⟨u, rfl, t, rfl⟩ := vals1 r
  exact chr_of_range h0 h1 ⟨.str _, H, I.tok _, ⟨_, rfl⟩, q⟩
/-- len of a str, a bytes, a list, a tuple -/
def LenV (K : PySem.W.Frag) (x : V) (H : Hp) (n : Nat) : Prop :=
  match x with
  | .str y => y.length ≤ sizeLine ∧ n = y.length
  | .byt y => y.size ≤ sizeLine ∧ n = y.size
  | .ref p => (∃ xs, SqL K H p xs ∧ n = xs.length) ∨ ∃ xs, SqT K H p xs ∧ n = xs.length
  | _ => False
theorem call_len : CallR X (.builtin "len") (fun xs H Q => ∃ x n, xs = [x] ∧ LenV X.K x H n ∧ Q (.int n) H) := by
  intro pins s σ H xs us Q I r h
  obtain ⟨x, n, rfl, e, q⟩ := h
  obtain ⟨u, rfl, rx⟩ := vals1 r
  have hl := line63
  have hs : sizeLine = 16777216 := sizeLine_eq
  cases x with
  | str y =>
    obtain ⟨t, rfl⟩ := rx
    obtain ⟨hy, e'⟩ : y.length ≤ sizeLine ∧ n = y.length := e
    subst e'
    exact len_str (by omega) ⟨.int _, H, I.tok _, ⟨_, rfl⟩, q⟩
  | byt y =>
    obtain ⟨t, rfl⟩ := rx
    obtain ⟨hy, e'⟩ : y.size ≤ sizeLine ∧ n = y.size := e
    subst e'
    exact PySem.W.len_bytes (by omega) ⟨.int _, H, I.tok _, ⟨_, rfl⟩, q⟩
  | ref p =>
    cases rx
    have e' : (∃ xs, SqL X.K H p xs ∧ n = xs.length) ∨ ∃ xs, SqT X.K H p xs ∧ n = xs.length := e
    rcases e' with ⟨xs, hx, e'⟩ | ⟨xs, hx, e'⟩
    · subst e'
      obtain ⟨its, r', pl, hz⟩ := I.list hx
      have hlen := r'.length
      exact Calls.call_len_list pl.isList (by simp only [List.size_toArray]; omega) ⟨.int xs.length, H, I.tok _, ⟨_, by simp only [List.size_toArray]; rw [hlen]⟩, q⟩
    · subst e'
      obtain ⟨its, r', pl, hz⟩ := I.tuple hx
      have hlen := r'.length
      exact len_tuple pl (by simp only [List.size_toArray]; omega) ⟨.int xs.length, H, I.tok _, ⟨_, by simp only [List.size_toArray]; rw [hlen]⟩, q⟩
  | _ => exact (show False from e).elim
/-- divmod: a new tuple -/
theorem call_divmod : CallR X (.builtin "divmod") (fun xs H Q => ∃ i j, xs = [.int i, .int j] ∧ CDiv i j ∧ ∀ p, H p = none → Q (.ref p) (upd H p (.tup [.int (i / j), .int (i % j)]))) := by
  intro pins s σ H xs us Q I r h
  obtain ⟨i, j, rfl, ⟨h1, h2⟩, q⟩ := h
  obtain ⟨u, w', rfl, ⟨t, rfl⟩, ⟨t', rfl⟩⟩ := vals2 r
  refine divmod_int (by omega) ?_ (.inl (PyProof.noPylong_small (by omega)))
  rw [Int.fdiv_eq_ediv_of_nonneg i (by omega), Int.fmod_eq_emod_of_nonneg i (by omega)]
  have hn : H s.heap.objs.size = none := I.hok.fresh (Nat.le_refl _)
  refine ⟨.ref s.heap.objs.size, _, ?_, rfl, q _ hn⟩
  refine I.laid (fun b o e => Heap.get?_push_of_some _ e) (Nat.le_refl _) ⟨by simp only [List.length_cons, List.length_nil]; rw [sizeLine_eq]; decide, [.int (i / j) s.toks, .int (i % j) (s.toks + 1)], .cons ⟨_, rfl⟩ (.cons ⟨_, rfl⟩ .nil), ?_⟩
  exact ⟨_, Heap.get?_push_size s.heap rfl, rfl, 0, rfl⟩
end
end L2

namespace L2
open PySem PySem.Spec PyProof.Rows

/-! ### an instance, its attributes a map -/
structure ObjM (h : Heap) (x dx C : Addr) (mA : Str → Option Value) : Prop where
  obj : h.get? x = some (PySem.W.instObj C dx)
  ns : h.Ns1 dx mA
  ne : dx ≠ x

theorem lookIn_ns {h : Heap} {dx : Addr} {mA : Str → Option Value} (n : h.Ns1 dx mA) : ∃ od, h.get? dx = some od ∧ ∀ name, PySem.W.lookIn name od = some (mA name) := by
  obtain ⟨o, es, ep, ho, hd, hk, _, hm⟩ := n
  refine ⟨o, ho, fun name => ?_⟩
  have e := hm name
  unfold nsFind findBy at e
  rw [← Array.find?_toList] at e
  unfold PySem.W.lookIn
  rw [hd]
  dsimp only
  split
  · rename_i y q
    rw [q] at e
    exact congrArg some e
  · rename_i q
    rw [q] at e
    have a : es.toList.any (·.refKey) = false := by
      rw [List.any_eq_false]
      intro y hy
      obtain ⟨z, t, hkey⟩ := hk y (Array.mem_toList_iff.mp hy)
      simp [DictEntry.refKey, hkey]
    have a' : ¬ es.toList.any (·.refKey) = true := by rw [a]; exact Bool.false_ne_true
    rw [if_neg a']
    exact congrArg some e

theorem ObjM.look {h : Heap} {x dx C : Addr} {mA : Str → Option Value} (I : ObjM h x dx C mA) : ∃ od, PySem.W.InstAt h x (PySem.W.instObj C dx) C (some od) ∧ ∀ name, PySem.W.lookIn name od = some (mA name) :=
  let ⟨od, ho, hl⟩ := lookIn_ns I.ns
  ⟨od, ⟨I.obj, rfl, rfl, ho⟩, hl⟩

section
variable {prog : Program} {w : World} {A : Around} {E : Value → Shared → Prop} {s : Shared} {K : PySem.W.Frag} {x dx C f : Addr} {mA : Str → Option Value} {name : Str} {v : Value}

theorem get_map {expr : Bool} {Q : Value → Shared → Prop} (X : K.In s.heap) (I : ObjM s.heap x dx C mA) (hg : PySem.W.plainGet K C name = true) (hh : PySem.W.hasDictIn K C = true)
    (ha : PySem.W.findIn K (.ref C) name = some none) (hv : mA name = some v) (hv' : PySem.W.handedIn v = true) (h : Q v { s with toks := s.toks + 1 }) :
    wpAny (model prog w) A (getAttr (.ref x) name expr) Q E s := by
  obtain ⟨od, J, hl⟩ := I.look
  exact PySem.W.get_value X J (PySem.W.plainGet_of hg).1 (PySem.W.findObj_own hh ha rfl (by rw [hl, hv])) hv' h

theorem get_const {expr : Bool} {a : Value} {Q : Value → Shared → Prop} (X : K.In s.heap) (I : ObjM s.heap x dx C mA) (hg : PySem.W.plainGet K C name = true) (hh : PySem.W.hasDictIn K C = true)
    (ha : PySem.W.findIn K (.ref C) name = some (some a)) (hn : PySem.W.specialIn K a "__get__" = some none) (hc : PySem.W.copiedNames.contains name = false) (hv : mA name = none) (hv' : PySem.W.handedIn a = true)
    (h : Q a { s with toks := s.toks + 1 }) : wpAny (model prog w) A (getAttr (.ref x) name expr) Q E s := by
  obtain ⟨od, J, hl⟩ := I.look
  exact PySem.W.get_value X J (PySem.W.plainGet_of hg).1 (PySem.W.findObj_cls hh ha hn hv' hc (by rw [hl, hv])) hv' h

theorem get_meth {pl : Sem Bool} {Q : Value × List Value → Shared → Prop} (X : K.In s.heap) (I : ObjM s.heap x dx C mA) (hg : PySem.W.plainGet K C name = true)
    (hf : PySem.W.findIn K (.ref C) name = some (some (.ref f))) (ht : PySem.W.isFn K (.ref f) = true) (hv : mA name = none) (h : Q (.ref f, [.ref x]) s) :
    wpAny (model prog w) A (getMethod (.ref x) name pl) Q E s := by
  obtain ⟨od, J, hl⟩ := I.look
  exact PySem.W.method_fn X J (PySem.W.plainGet_of hg).1 (PySem.W.plainGet_of hg).2 hf (beq_iff_eq.mp ht) (by show (PySem.W.lookIn name od).map (·.isSome) = some false; rw [hl, hv]; rfl) h

theorem set_map {ns : List Str} {Q : Unit → Shared → Prop} (X : K.In s.heap) (I : ObjM s.heap x dx C mA)
    (hs : PySem.W.findIn K (.ref C) "__setattr__" = some (some (.builtin "object.__setattr__"))) (hp : PySem.W.plainOver K C = true) (ht : PySem.W.takerIn K C name = some none) (hh : PySem.W.hasDictIn K C = true)
    (hw : PySem.Within mA ns) (hsz : ns.length ≤ sizeLine)
    (h : ∀ h', ObjM h' x dx C (fun y => if y = name then some v else mA y) → Heap.SameBut dx s.heap h' → Q () { s with heap := h', toks := s.toks + 2 }) :
    wpAny (model prog w) A (setAttr (.ref x) name v) Q E s := by
  obtain ⟨od, J, hl⟩ := I.look
  refine PySem.W.set_plain X J hs (PySem.W.osa_open (s := { s with toks := s.toks + 1 }) (r := none) X J hp ht fun b => ?_)
  obtain ⟨cd, hc, hd'⟩ := PySem.W.any_some hh
  have hx : s.heap.get? x = some ⟨.ref C, some dx, .plain, #[]⟩ := I.obj
  refine wpAny_bind (wpAny_pure (wpAny_bind (wpAny_bind (wpAny_loadPart hx (wpAny_bind (PySem.W.Looks.here (s := { s with toks := s.toks + 1 }) (PySem.W.looks_clsIn X hc) ?_))))))
  rw [hd']
  refine wpAny_pure (a := some dx) (wpAny_bind (wpAny_pure (wpAny_bind ?_)))
  refine wpAny_nsSet1 (s := { s with toks := s.toks + 1 }) I.ns fun h' hn2 hs2 => ?_
  obtain ⟨oD, esD, epD, hoD, hdD, hcD⟩ := hn2.count (PySem.Within.cons name v hw)
  refine wpAny_bind (wpAny_lookBehind hoD (by rw [hdD]; exact pastItsLine_dict (Nat.le_trans hcD (by rw [List.length_cons]; omega))) ?_)
  exact wpAny_pure (h _ ⟨(hs2.2 _ (Ne.symm I.ne)).trans I.obj, hn2, I.ne⟩ hs2)

/-- C(..): the dict at the heap's end, the instance behind it; then its __init__ -/
theorem make_map {R : Result → Shared → Prop} {vs : List Value} {kw : List (Str × Value)} (X : K.In s.heap) (hm : PySem.W.makesIn K C = true)
    (hi : PySem.W.findIn K (.ref C) "__init__" = some (some (.ref f))) (hf : PySem.W.typeIn K (.ref f) = some (.type "function"))
    (h : codeAny (model prog w) (A.under (.builtin "type.__call__" ⟨.ref C :: vs, kw⟩)) (.call (.ref f) ⟨.ref (s.heap.objs.size + 1) :: vs, kw⟩) (PySem.W.InitBack (s.heap.objs.size + 1) R)
      { s with heap := (s.heap.push PySem.W.emptyDict).push (PySem.W.instObj C s.heap.objs.size) }) :
    codeAny (model prog w) A (.call (.ref C) ⟨vs, kw⟩) R s := by
  obtain ⟨hh, g, d, t, os⟩ := s
  exact PySem.W.make_core (PySem.W.makes_of X hm) (PySem.W.looks_findIn X hi) (fun self => PySem.W.bind_fn X self hf) (.inl rfl) h
/-- C() where there is no __init__ but object's -/
theorem make_map0 {R : Result → Shared → Prop} (X : K.In s.heap) (hm : PySem.W.makesIn K C = true)
    (hi : PySem.W.findIn K (.ref C) "__init__" = some (some (.builtin "object.__init__")))
    (hb : ∀ self, PySem.W.Looks (model prog w) s.heap (bindSpecial (.builtin "object.__init__") self) (.builtin "object.__init__", [self]))
    (h : codeAny (model prog w) (A.under (.builtin "type.__call__" ⟨[.ref C], []⟩)) (.call (.builtin "object.__init__") ⟨[.ref (s.heap.objs.size + 1)], []⟩) (PySem.W.InitBack (s.heap.objs.size + 1) R)
      { s with heap := (s.heap.push PySem.W.emptyDict).push (PySem.W.instObj C s.heap.objs.size) }) :
    codeAny (model prog w) A (.call (.ref C) ⟨[], []⟩) R s := by
  obtain ⟨hh, g, d, t, os⟩ := s
  exact PySem.W.make_core (PySem.W.makes_of X hm) (PySem.W.looks_findIn X hi) hb (.inr ⟨rfl, rfl⟩) h
end

/-! ### the attributes as a list of pairs -/
def putF (f : Str) (v : V) : List (Str × V) → List (Str × V)
  | [] => [(f, v)]
  | (g, x) :: r => if g = f then (g, v) :: r else (g, x) :: putF f v r
theorem lookup_putF (f g : Str) (v : V) : ∀ fs : List (Str × V), (putF f v fs).lookup g = if g = f then some v else fs.lookup g
  | [] => by
    show List.lookup g [(f, v)] = _
    by_cases h : g = f
    · have hb : (g == f) = true := beq_iff_eq.mpr h
      simp only [List.lookup, hb, if_pos h]
    · have hb : (g == f) = false := beq_eq_false_iff_ne.mpr h
      simp only [List.lookup, hb, if_neg h]
  | (k, x) :: r => by
    have ih := lookup_putF f g v r
    rw [show putF f v ((k, x) :: r) = (if k = f then (k, v) :: r else (k, x) :: putF f v r) from rfl]
    by_cases hk : k = f
    · rw [if_pos hk]
      by_cases h : g = k
      · have hb : (g == k) = true := beq_iff_eq.mpr h
        simp only [List.lookup, hb, if_pos (h.trans hk)]
      · have hb : (g == k) = false := beq_eq_false_iff_ne.mpr h
        simp only [List.lookup, hb, if_neg (fun e : g = f => h (e.trans hk.symm))]
    · rw [if_neg hk]
      by_cases h : g = k
      · have hb : (g == k) = true := beq_iff_eq.mpr h
        simp only [List.lookup, hb, if_neg (fun e : g = f => hk (h.symm.trans e))]
      · have hb : (g == k) = false := beq_eq_false_iff_ne.mpr h
        simp only [List.lookup, hb]
        exact ih
theorem keys_putF (f : Str) (v : V) : ∀ fs : List (Str × V), f ∈ (putF f v fs).map (·.1) ∧ ∀ g, g ∈ fs.map (·.1) → g ∈ (putF f v fs).map (·.1)
  | [] => ⟨by simp [putF], fun g h => by simp at h⟩
  | (k, x) :: r => by
    obtain ⟨i1, i2⟩ := keys_putF f v r
    rw [show putF f v ((k, x) :: r) = (if k = f then (k, v) :: r else (k, x) :: putF f v r) from rfl]
    by_cases hk : k = f
    · rw [if_pos hk]
      subst hk
      exact ⟨by simp, fun g h => by simpa using h⟩
    · rw [if_neg hk]
      refine ⟨?_, fun g h => ?_⟩
      · rw [List.map_cons]
        exact List.mem_cons_of_mem _ i1
      · rw [List.map_cons] at h ⊢
        rcases List.mem_cons.mp h with e | e
        · exact List.mem_cons.mpr (.inl e)
        · exact List.mem_cons_of_mem _ (i2 g e)
theorem length_putF (f : Str) (v : V) : ∀ fs : List (Str × V), (putF f v fs).length ≤ fs.length + 1
  | [] => by simp [putF]
  | (k, x) :: r => by
    have ih := length_putF f v r
    rw [show putF f v ((k, x) :: r) = (if k = f then (k, v) :: r else (k, x) :: putF f v r) from rfl]
    by_cases hk : k = f
    · rw [if_pos hk, List.length_cons, List.length_cons]; omega
    · rw [if_neg hk, List.length_cons, List.length_cons]; omega

theorem RelO.some_of {v : V} {o : Option Value} (r : RelO (some v) o) : ∃ u, o = some u ∧ RelV v u := by
  cases o with
  | none => exact (show False from r).elim
  | some u => exact ⟨u, rfl, r⟩
theorem RelO.none_of {o : Option Value} (r : RelO none o) : o = none := by
  cases o with
  | none => rfl
  | some u => exact (show False from r).elim
theorem handed_of {v : V} {u : Value} (r : RelV v u) : PySem.W.handedIn u = true := by
  cases v with
  | non => cases (show u = Value.none from r); rfl
  | bl b => cases (show u = Value.bool b from r); rfl
  | int i => obtain ⟨t, e⟩ := (show ∃ t, u = Value.int i t from r); cases e; rfl
  | str x => obtain ⟨t, e⟩ := (show ∃ t, u = Value.str x t from r); cases e; rfl
  | byt b => obtain ⟨t, e⟩ := (show ∃ t, u = Value.bytes b t from r); cases e; rfl
  | flt b => obtain ⟨t, e⟩ := (show ∃ t, u = Value.float b t from r); cases e; rfl
  | ref a => cases (show u = Value.ref a from r); rfl
  | ty n => cases (show u = Value.type n from r); rfl

section
variable {P : Program} {w : World} {H H' : Hp} {h h' : Heap} {a C dx : Addr} {fs fs' : List (Str × V)}
theorem ins_get (hok : HOk P w H h) (e : H a = some (.ins C dx fs)) : ∃ mA, ObjM h a dx C mA ∧ (∀ f, RelO (fs.lookup f) (mA f)) ∧ PySem.Within mA (fs.map (·.1)) ∧ fs.length ≤ 1000 ∧ H dx = some (.own a) := by
  obtain ⟨d, z, ne, ob, mA, n, r, q⟩ := (show ObjOk P w H h a (.ins C dx fs) from hok a _ e)
  exact ⟨mA, ⟨ob, n, ne⟩, r, q, z, d⟩
end

/-! ### what of the text a class must have -/
structure Cls (K : PySem.W.Frag) (C : Addr) : Prop where
  pg : PySem.W.plainGet K C Str.empty = true
  hd : PySem.W.hasDictIn K C = true
  po : PySem.W.plainOver K C = true
  sa : PySem.W.findIn K (.ref C) "__setattr__" = some (some (.builtin "object.__setattr__"))
theorem Cls.get {K : PySem.W.Frag} {C : Addr} (c : Cls K C) (f : Str) : PySem.W.plainGet K C f = true := c.pg
/-- no class of it has the name -/
def NoAttr (K : PySem.W.Frag) (C : Addr) (f : Str) : Prop := PySem.W.findIn K (.ref C) f = some none
theorem NoAttr.taker {K : PySem.W.Frag} {C : Addr} {f : Str} (n : NoAttr K C f) : PySem.W.takerIn K C f = some none := by
  unfold PySem.W.takerIn
  rw [show PySem.W.findIn K (.ref C) f = some none from n]
  rfl
/-- a constant of the class -/
structure Con (K : PySem.W.Frag) (C : Addr) (f : Str) (v : V) (u : Value) : Prop where
  at_ : PySem.W.findIn K (.ref C) f = some (some u)
  rel : RelV v u
  get : PySem.W.specialIn K u "__get__" = some none
  cp : PySem.W.copiedNames.contains f = false
/-- a method: a plain def of the class or of one above it -/
structure Meth (K : PySem.W.Frag) (C : Addr) (m : Str) (f : Addr) : Prop where
  at_ : PySem.W.findIn K (.ref C) m = some (some (.ref f))
  fn : PySem.W.isFn K (.ref f) = true
  kp : PySem.W.keepIn K (.ref f) = true

section
variable {X : Cx} {pins : List (Addr × Obj)} {σ : St} {H : Hp} {s : Shared} {a C dx : Addr} {fs : List (Str × V)} {f : Str} {v : V} {A : Around} {E : Value → Shared → Prop}

theorem getattr_ok {b : Bool} {Q : Value → Shared → Prop} (I : Inv X pins σ H s) (e : H a = some (.ins C dx fs)) (c : Cls X.K C) (n : NoAttr X.K C f) (l : fs.lookup f = some v)
    (h : ∀ u s', Inv X pins σ H s' → RelV v u → Q u s') : wpAny (model X.prog X.w) A (getAttr (.ref a) f b) Q E s := by
  obtain ⟨mA, O, r, _, _, _⟩ := ins_get I.hok e
  obtain ⟨u, hu, ru⟩ := RelO.some_of (v := v) (o := mA f) (by rw [← l]; exact r f)
  exact get_map I.kIn O (c.get f) c.hd n hu (handed_of ru) (h u _ (I.tok _) ru)

theorem getcon_ok {b : Bool} {u : Value} {Q : Value → Shared → Prop} (I : Inv X pins σ H s) (e : H a = some (.ins C dx fs)) (c : Cls X.K C) (k : Con X.K C f v u) (l : fs.lookup f = none)
    (h : ∀ s', Inv X pins σ H s' → Q u s') : wpAny (model X.prog X.w) A (getAttr (.ref a) f b) Q E s := by
  obtain ⟨mA, O, r, _, _, _⟩ := ins_get I.hok e
  have hn : mA f = none := RelO.none_of (by rw [← l]; exact r f)
  exact get_const I.kIn O (c.get f) c.hd k.at_ k.get k.cp hn (handed_of k.rel) (h _ (I.tok _))

theorem getmeth_ok {m : Str} {g : Addr} {pl : Sem Bool} {Q : Value × List Value → Shared → Prop} (I : Inv X pins σ H s) (e : H a = some (.ins C dx fs)) (c : Cls X.K C) (k : Meth X.K C m g) (l : fs.lookup m = none)
    (h : Q (.ref g, [.ref a]) s) : wpAny (model X.prog X.w) A (getMethod (.ref a) m pl) Q E s := by
  obtain ⟨mA, O, r, _, _, _⟩ := ins_get I.hok e
  have hn : mA m = none := RelO.none_of (by rw [← l]; exact r m)
  exact get_meth I.kIn O (c.get m) k.at_ k.fn hn h

theorem setattr_ok {y : V} {u : Value} {Q : Unit → Shared → Prop} (I : Inv X pins σ H s) (e : H a = some (.ins C dx fs)) (c : Cls X.K C) (n : NoAttr X.K C f) (hl : fs.length < 1000) (ry : RelV y u)
    (h : ∀ s', Inv X pins σ (upd H a (.ins C dx (putF f y fs))) s' → Q () s') : wpAny (model X.prog X.w) A (setAttr (.ref a) f u) Q E s := by
  obtain ⟨mA, O, r, wi, _, ho⟩ := ins_get I.hok e
  have hz : (fs.map (·.1)).length ≤ sizeLine := by rw [List.length_map, sizeLine_eq]; omega
  refine set_map I.kIn O c.sa c.po n.taker c.hd wi hz fun h' O' sb => h _ ?_
  have hd : ∃ o, h'.get? dx = some o := let ⟨o, _, _, e', _⟩ := O'.ns; ⟨o, e'⟩
  refine I.write (x := a) (e := dx) (by rw [e]; exact True.intro) (.inr ho) (fun b q hb z => (sb.2 b hb).trans z) hd ?_
  refine ⟨by rw [upd_ne O.ne]; exact ho, ?_, O.ne, O'.obj, _, O'.ns, fun g => ?_, fun g hg => ?_⟩
  · have := length_putF f y fs; omega
  · show RelO ((putF f y fs).lookup g) (if g = f then some u else mA g)
    rw [lookup_putF]
    by_cases q : g = f
    · rw [if_pos q, if_pos q]; exact ry
    · rw [if_neg q, if_neg q]; exact r g
  · by_cases q : g = f
    · rw [q]; exact (keys_putF f y fs).1
    · refine (keys_putF f y fs).2 g (wi g fun z => hg ?_)
      show (if g = f then some u else mA g) = none
      rw [if_neg q]; exact z

/-- a new instance, tracked, without attributes -/
theorem Inv.made (I : Inv X pins σ H s) : Inv X pins σ (upd (upd H s.heap.objs.size (.own (s.heap.objs.size + 1))) (s.heap.objs.size + 1) (.ins C s.heap.objs.size []))
    { s with heap := (s.heap.push PySem.W.emptyDict).push (PySem.W.instObj C s.heap.objs.size) } := by
  have e1 : (s.heap.push PySem.W.emptyDict).get? s.heap.objs.size = some PySem.W.emptyDict := Heap.get?_push_size s.heap rfl
  have e2 : ((s.heap.push PySem.W.emptyDict).push (PySem.W.instObj C s.heap.objs.size)).get? (s.heap.objs.size + 1) = some (PySem.W.instObj C s.heap.objs.size) := by
    have := Heap.get?_push_size (s.heap.push PySem.W.emptyDict) (o := PySem.W.instObj C s.heap.objs.size) rfl
    rwa [Heap.size_push] at this
  have e3 : (s.heap.push PySem.W.emptyDict).Ns s.heap.objs.size (fun _ => none) := ⟨PySem.W.emptyDict, #[], _, e1, rfl, (fun e he => absurd he (by simp)), fun _ => rfl⟩
  have I1 := I.laid (a := s.heap.objs.size) (o := .own (s.heap.objs.size + 1)) (h' := s.heap.push PySem.W.emptyDict) (t' := s.toks) (fun b u q => Heap.get?_push_of_some _ q) (Nat.le_refl _) ⟨_, e1⟩
  refine I1.laid (a := s.heap.objs.size + 1) (o := .ins C s.heap.objs.size []) (t' := s.toks) (fun b u q => Heap.get?_push_of_some _ q) (Nat.le_of_eq (Heap.size_push _ _)) ?_
  have ne : s.heap.objs.size ≠ s.heap.objs.size + 1 := Nat.ne_of_lt (Nat.lt_succ_self _)
  refine ⟨by rw [upd_ne ne, upd_same], Nat.zero_le _, ne, e2, fun _ => none, (Heap.Ns1.of_empty e3).at fun o q => Heap.get?_push_of_some _ q, fun _ => True.intro, fun y hy => absurd rfl hy⟩

/-- e.f where nothing but the object is asked: through attributeBase (super) and the last hold -/
theorem attr_of {prog : Program} {w : World} {env : Env} {e : Expr} {f : Str} {pos : Pos} {s : Shared} {Q : Value → Shared → Prop} (hb : attributeBase e f env (eval e env) = eval e env)
    (h : wpAny (model prog w) A (eval e env) (fun o s₁ => wpAny (model prog w) A (getAttr o f true) Q E s₁) E s) : wpAny (model prog w) A (eval (.Attribute e f pos) env) Q E s :=
  Attribute_any_ h (by rw [arm_eval_Attribute, hb])
end

/-! ### readings and rules -/
/-- e.f, an attribute of the instance -/
def tFld (K : PySem.W.Frag) (ta : TE) (f : Str) : TE := fun σ H Q => ta σ H fun x H1 => ∃ a C dx fs v, x = .ref a ∧ H1 a = some (.ins C dx fs) ∧ Cls K C ∧ NoAttr K C f ∧ fs.lookup f = some v ∧ Q v H1
/-- e.f, a constant of the class -/
def tCon (K : PySem.W.Frag) (ta : TE) (f : Str) : TE := fun σ H Q => ta σ H fun x H1 => ∃ a C dx fs v u, x = .ref a ∧ H1 a = some (.ins C dx fs) ∧ Cls K C ∧ Con K C f v u ∧ fs.lookup f = none ∧ Q v H1
/-- e.f = value -/
def sFld (K : PySem.W.Frag) (ta tv : TE) (f : Str) : TS := fun D σ H => tv σ H fun y H1 => ta σ H1 fun x H2 => ∃ a C dx fs, x = .ref a ∧ H2 a = some (.ins C dx fs) ∧ Cls K C ∧ NoAttr K C f ∧ fs.length < 1000 ∧
  D.nx σ (upd H2 a (.ins C dx (putF f y fs)))
/-- an augmented operator on two values -/
def InOp (X : Cx) (op : Operator) (rd : V → V → Hp → VK → Prop) : Prop :=
  ∀ (pins : List (Addr × Obj)) (s : Shared) (σ : St) (H : Hp) (x y : V) (u v : Value) (Q : VK), Inv X pins σ H s → RelV x u → RelV y v → rd x y H Q → wpAny (model X.prog X.w) X.A (inplaceOp op u v) (EP X pins σ Q) X.xe s
/-- e.f op= value -/
def sFldAug (K : PySem.W.Frag) (ta tv : TE) (rd : V → V → Hp → VK → Prop) (f : Str) : TS := fun D σ H => ta σ H fun x H1 => ∃ a C dx fs v, x = .ref a ∧ H1 a = some (.ins C dx fs) ∧ Cls K C ∧ NoAttr K C f ∧ fs.lookup f = some v ∧
  tv σ H1 fun y H2 => rd v y H2 fun z H3 => ∃ dx' fs', H3 a = some (.ins C dx' fs') ∧ fs'.length < 1000 ∧ D.nx σ (upd H3 a (.ins C dx' (putF f z fs')))

section
variable {X : Cx} {o e value : Expr} {f : Str} {pos pos' tpos : Pos} {ta tv : TE}
theorem pe_fld (he : PE X e ta) (hb : attributeBase e f X.env (eval e X.env) = eval e X.env) : PE X (.Attribute e f pos) (tFld X.K ta f) := by
  intro pins s σ H Q I h
  refine attr_of hb (thn (he pins s σ H _ I h) fun u s1 ⟨x, H1, I1, rx, a, C, dx, fs, v, ex, ea, c, n, l, q⟩ => ?_)
  subst ex
  obtain rfl : u = Value.ref a := rx
  exact getattr_ok I1 ea c n l fun u' s2 I2 ru => ⟨v, H1, I2, ru, q⟩
theorem pe_con (he : PE X e ta) (hb : attributeBase e f X.env (eval e X.env) = eval e X.env) : PE X (.Attribute e f pos) (tCon X.K ta f) := by
  intro pins s σ H Q I h
  refine attr_of hb (thn (he pins s σ H _ I h) fun u s1 ⟨x, H1, I1, rx, a, C, dx, fs, v, u0, ex, ea, c, k, l, q⟩ => ?_)
  subst ex
  obtain rfl : u = Value.ref a := rx
  exact getcon_ok I1 ea c k l fun s2 I2 => ⟨v, H1, I2, k.rel, q⟩
theorem ps_fld (ha : PE X o ta) (hv : PE X value tv) (hs : swapsWith value (some (.Attribute o f pos')) pos.line X.env = pure false) : PS X (.Assign [.Attribute o f pos'] value pos) (sFld X.K ta tv f) := by
  intro pins s σ H D I h
  refine plainObj_wpAny_Assign_Attribute (thn (hv pins s σ H _ I h) fun u s1 ⟨y, H1, I1, ry, q⟩ => thn (ha pins s1 σ H1 _ I1 q) fun ov s2 ⟨x, H2, I2, rx, a, C, dx, fs, ex, ea, c, n, l, q2⟩ => ?_) hs
  subst ex
  obtain rfl : ov = Value.ref a := rx
  exact setattr_ok I2 ea c n l ry fun s3 I3 => ⟨σ, _, I3, q2⟩
theorem ps_fldaug {op : Operator} {rd : V → V → Hp → VK → Prop} (ha : PE X o ta) (hv : PE X value tv) (hop : InOp X op rd) : PS X (.AugAssign (.Attribute o f tpos) op value pos) (sFldAug X.K ta tv rd f) := by
  intro pins s σ H D I h
  refine wpAny_AugAssign_AttributeAny (thn (ha pins s σ H _ I h) fun ov s1 ⟨x, H1, I1, rx, a, C, dx, fs, v, ex, ea, c, n, l, q⟩ => ?_)
  subst ex
  obtain rfl : ov = Value.ref a := rx
  refine getattr_ok I1 ea c n l fun u s2 I2 ru => thn (hv pins s2 σ H1 _ I2 q) fun w3 s3 ⟨y, H2, I3, ry, q3⟩ => thn (hop pins s3 σ H2 v y u w3 _ I3 ru ry q3) fun w4 s4 ⟨z, H3, I4, rz, dx', fs', ea', l', q4⟩ => ?_
  exact setattr_ok I4 ea' c n l' rz fun s5 I5 => ⟨σ, _, I5, q4⟩
def rAdd : V → V → Hp → VK → Prop := fun x y H Q => ∃ i j, x = .int i ∧ y = .int j ∧ Q (.int (i + j)) H
def rSub : V → V → Hp → VK → Prop := fun x y H Q => ∃ i j, x = .int i ∧ y = .int j ∧ Q (.int (i - j)) H
theorem in_add : InOp X .Add rAdd := by
  rintro pins s σ H x y u v Q I rx ry ⟨i, j, rfl, rfl, q⟩
  obtain ⟨t, rfl⟩ := (show ∃ t, u = Value.int i t from rx)
  obtain ⟨t', rfl⟩ := (show ∃ t', v = Value.int j t' from ry)
  exact PyProof.Rows.iadd_int ⟨.int (i + j), H, I.tok _, ⟨_, rfl⟩, q⟩
theorem in_sub : InOp X .Sub rSub := by
  rintro pins s σ H x y u v Q I rx ry ⟨i, j, rfl, rfl, q⟩
  obtain ⟨t, rfl⟩ := (show ∃ t, u = Value.int i t from rx)
  obtain ⟨t', rfl⟩ := (show ∃ t', v = Value.int j t' from ry)
  exact PyProof.Rows.isub_int ⟨.int (i - j), H, I.tok _, ⟨_, rfl⟩, q⟩

/-- what is between an instance and its method: the tree of a method call -/
theorem methcall_of {pl : Sem Bool} {m : Str} {apos : Pos} {args : List Expr} {pins : List (Addr × Obj)} {s : Shared} {σ : St} {H : Hp} {Q : Value → Shared → Prop} {te : TE} (he : PE X e te) (I : Inv X pins σ H s)
    (h : te σ H fun x H1 => ∃ a C dx fs g, x = .ref a ∧ H1 a = some (.ins C dx fs) ∧ Cls X.K C ∧ Meth X.K C m g ∧ fs.lookup m = none ∧
      ∀ s1, Inv X pins σ H1 s1 → wpAny (model X.prog X.w) X.A (callWith pos (.ref g) [.ref a] (backTo pos (starEach args X.env)) (backToKw pos (keywordEach [] X.env))) Q X.xe s1)
    (ht : eval (.Call (.Attribute e m apos) args [] pos) X.env = (do
      let ov ← eval e X.env
      standAt apos.atName
      let (f, first) ← holding [ov] (getMethod ov m pl)
      callWith pos f first (backTo pos (starEach args X.env)) (backToKw pos (keywordEach [] X.env)))) :
    wpAny (model X.prog X.w) X.A (eval (.Call (.Attribute e m apos) args [] pos) X.env) Q X.xe s := by
  refine PySem.W.methodCall_KW (pl := pl) (thn (he pins s σ H _ I h) fun u s1 ⟨x, H1, I1, rx, a, C, dx, fs, g, ex, ea, c, k, l, q⟩ => ?_) ht
  subst ex
  obtain rfl : u = Value.ref a := rx
  exact getmeth_ok I1 ea c k l (q s1 I1)
end

/-! ### isinstance -/
section
variable {X : Cx} {pins : List (Addr × Obj)} {σ : St} {H : Hp} {s : Shared} {A : Around} {E : Value → Shared → Prop} {Q : Value → Shared → Prop} {c : Value} {b : Bool}
/-- the type of a value, as the fragment's deciders take it; for an instance its class -/
inductive TyOf (K : PySem.W.Frag) (H : Hp) : V → Value → Prop where
  | non : TyOf K H .non (.type "NoneType")
  | bl (x : Bool) : TyOf K H (.bl x) (.type "bool")
  | int (i : Int) : TyOf K H (.int i) (.type "int")
  | str (x : Str) : TyOf K H (.str x) (.type "str")
  | flt (x : UInt64) : TyOf K H (.flt x) (.type "float")
  | lst {a : Addr} {xs : List V} (e : H a = some (.lst xs)) : TyOf K H (.ref a) (.type "list")
  | frz {a : Addr} {o : Obj} {xs : List V} (e : H a = some (.frz o (.lst xs))) : TyOf K H (.ref a) (.type "list")
  | tup {a : Addr} {xs : List V} (e : H a = some (.tup xs)) : TyOf K H (.ref a) (.type "tuple")
  | dK {a : Addr} {kvs : List (Key × V)} (e : H a = some (.dK kvs)) : TyOf K H (.ref a) (.type "dict")
  | dT {a : Addr} {kvs : List (List Key × V)} (e : H a = some (.dT kvs)) : TyOf K H (.ref a) (.type "dict")
  | ins {a C dx : Addr} {fs : List (Str × V)} (e : H a = some (.ins C dx fs)) (cl : Cls K C) (ha : PySem.W.findIn K (.ref C) "__class__" = some (some (.builtin "object.__class__")))
      (hn : PySem.W.specialIn K (.builtin "object.__class__") "__get__" = some (some (.builtin "getset_descriptor.__get__"))) (htk : PySem.W.takesIn K (.builtin "object.__class__") = some true)
      (hm : PySem.W.mroIn K C (.type "object") = some true) : TyOf K H (.ref a) (.ref C)
/-- isinstance(x, c) for one class c, a built-in or an own one: kitOne's answer -/
theorem isinst_ok {x : V} {u t : Value} (I : Inv X pins σ H s) (rx : RelV x u) (ty : TyOf X.K H x t) (e : PySem.W.kitOne X.K t c = some b) (h : ∀ tk, Q (.bool b) { s with toks := tk }) :
    wpAny (model X.prog X.w) A (call (.builtin "isinstance") [u, c]) Q E s := by
  cases ty with
  | non => cases (show u = Value.none from rx); exact PySem.W.kia_one PySem.W.kitx_none I.kIn True.intro e (fun z => nomatch z) h
  | bl y => cases (show u = Value.bool y from rx); exact PySem.W.kia_one PySem.W.kitx_bool I.kIn True.intro e (fun z => nomatch z) h
  | int i => obtain ⟨t, q⟩ := (show ∃ t, u = Value.int i t from rx); cases q; exact PySem.W.kia_one PySem.W.kitx_int I.kIn True.intro e (fun z => nomatch z) h
  | str y => obtain ⟨t, q⟩ := (show ∃ t, u = Value.str y t from rx); cases q; exact PySem.W.kia_one PySem.W.kitx_str I.kIn True.intro e (fun z => nomatch z) h
  | flt y => obtain ⟨t, q⟩ := (show ∃ t, u = Value.float y t from rx); cases q; exact PySem.W.kia_one PySem.W.kitx_float I.kIn True.intro e (fun z => nomatch z) h
  | @lst a xs ea =>
    cases (show u = Value.ref a from rx)
    obtain ⟨_, _, n, _, h1⟩ := (show ObjOk X.prog X.w H s.heap a (.lst xs) from I.hok a _ ea)
    exact PySem.W.kia_one PySem.W.kitx_list I.kIn ⟨_, h1, rfl⟩ e (fun z => nomatch z) h
  | @frz a ob xs ea =>
    cases (show u = Value.ref a from rx)
    obtain ⟨_, _, _, n, _, h1⟩ := (show ObjOk X.prog X.w H s.heap a (.frz ob (.lst xs)) from I.hok a _ ea)
    exact PySem.W.kia_one PySem.W.kitx_list I.kIn ⟨_, h1, rfl⟩ e (fun z => nomatch z) h
  | @tup a xs ea =>
    cases (show u = Value.ref a from rx)
    obtain ⟨_, _, _, p⟩ := (show ObjOk X.prog X.w H s.heap a (.tup xs) from I.hok a _ ea)
    obtain ⟨o, h1, h2, _⟩ := p
    exact PySem.W.kia_one PySem.W.kitx_tuple I.kIn ⟨o, h1, h2⟩ e (fun z => nomatch z) h
  | @dK a kvs ea =>
    cases (show u = Value.ref a from rx)
    obtain ⟨_, _, vs, _, p⟩ := (show ObjOk X.prog X.w H s.heap a (.dK kvs) from I.hok a _ ea)
    obtain ⟨o, es, ep, h1, h2, _⟩ := p
    exact PySem.W.kia_one PySem.W.kitx_dict I.kIn ⟨o, h1, h2.1⟩ e (fun z => nomatch z) h
  | @dT a kvs ea =>
    cases (show u = Value.ref a from rx)
    obtain ⟨_, _, xs, _, o, es, ep, h1, h2, _⟩ := (show ObjOk X.prog X.w H s.heap a (.dT kvs) from I.hok a _ ea)
    exact PySem.W.kia_one PySem.W.kitx_dict I.kIn ⟨o, h1, h2.1⟩ e (fun z => nomatch z) h
  | @ins a C dx fs ea cl ha hn htk hm =>
    cases (show u = Value.ref a from rx)
    obtain ⟨mA, O, _⟩ := ins_get I.hok ea
    obtain ⟨od, J, _⟩ := O.look
    exact PySem.W.kia_one (PySem.W.kitx_own (cl.get _) cl.hd ha hn htk hm) I.kIn J e (fun z => nomatch z) h
end
end L2

namespace L2
open PySem PySem.Spec PyProof.Rows

/-! ### room -/
structure Room (k : Nat) (A : Around) : Prop where
  hd : A.handled = none
  dp : A.depth + 3 * k + 5 < recursionLimit
  un : A.units + 16 * k + 200 < cLine
theorem Room.mono {j k : Nat} {A : Around} (r : Room k A) (h : j ≤ k) : Room j A := ⟨r.hd, by have := r.dp; omega, by have := r.un; omega⟩
theorem Room.deeper {k : Nat} {A : Around} (r : Room (k + 1) A) (env : Env) : Room k (A.deeper env) :=
  ⟨r.hd, by have := r.dp; show A.depth + 1 + 3 * k + 5 < _; omega, by have := r.un; show A.units + 3 + 16 * k + 200 < _; omega⟩
theorem Room.in1 {k : Nat} {A : Around} (r : Room (k + 1) A) : Room k A.in1 :=
  ⟨r.hd, by have := r.dp; show A.depth + 3 * k + 5 < _; omega, by have := r.un; show A.units + 1 + 16 * k + 200 < _; omega⟩
theorem make_depth {A : Around} {C : Addr} {us : List Value} {kw : List (Str × Value)} : (A.under (.builtin "type.__call__" ⟨.ref C :: us, kw⟩)).depth = A.depth + 1 := by
  first | rfl | simp [Around.under, Code.weight, Code.isCreation, Code.isGuard, Code.isCaller, Code.frames, Code.isFrame, guardIds]
theorem make_units {A : Around} {C : Addr} {us : List Value} {kw : List (Str × Value)} : (A.under (.builtin "type.__call__" ⟨.ref C :: us, kw⟩)).units = A.units + 1 := by
  first | rfl | simp [Around.under, Code.cUnits, Code.frames, Code.isFrame]
theorem Room.make {k : Nat} {A : Around} (r : Room (k + 1) A) (C : Addr) (us : List Value) (kw : List (Str × Value)) : Room k (A.under (.builtin "type.__call__" ⟨.ref C :: us, kw⟩)) :=
  ⟨r.hd, by have := r.dp; rw [make_depth]; omega, by have := r.un; rw [make_units]; omega⟩
theorem Room.depth {k : Nat} {A : Around} (r : Room k A) : A.depth < recursionLimit := by have := r.dp; omega
theorem Room.units {k : Nat} {A : Around} (r : Room k A) : A.units + 64 < cLine := by have := r.un; omega
theorem Room.units0 {k : Nat} {A : Around} (r : Room k A) : A.units < cLine := by have := r.un; omega

/-! ### argument lists and displays -/
def tNil : TA := fun _ H Q => Q [] H
def tCons (ta : TE) (tr : TA) : TA := fun σ H Q => ta σ H fun x H1 => tr σ H1 fun xs H2 => Q (x :: xs) H2
section
variable {X : Cx} {e : Expr} {es : List Expr} {te : TE} {t : TA} {pos : Pos}
theorem pa_nil : PA X [] tNil := fun _ _ _ _ H Q I h => Calls.spliced_nil ⟨[], H, I, .nil, h⟩
theorem pa_cons (ha : PE X e te) (hr : PA X es t) (hs : starEach (e :: es) X.env = (false, eval e X.env) :: starEach es X.env := by rfl) : PA X (e :: es) (tCons te t) := by
  intro pos pins s σ H Q I h
  rw [hs]
  show wpAny _ _ (spliced ((false, eval e X.env) :: backTo pos (starEach es X.env))) _ _ s
  refine Calls.spliced_cons (thn (ha pins s σ H _ I h) fun u s1 ⟨x, H1, I1, r1, q1⟩ => ?_)
  exact thn (hr pos pins s1 σ H1 _ I1 q1) fun us s2 ⟨xs, H2, I2, r2, q2⟩ => ⟨x :: xs, H2, I2, .cons r1 r2, q2⟩

/-- a tuple, a list of written items -/
def tTup (t : TA) : TE := fun σ H Q => t σ H fun xs H1 => xs.length ≤ sizeLine ∧ ∀ p, H1 p = none → Q (.ref p) (upd H1 p (.tup xs))
def tLst (t : TA) : TE := fun σ H Q => t σ H fun xs H1 => xs.length ≤ sizeLine ∧ ∀ p, H1 p = none → Q (.ref p) (upd H1 p (.lst xs))
theorem pe_tup {x1} (h : PA X es t) : PE X (.Tuple es x1 pos) (tTup t) := by
  intro pins s σ H Q I hq
  refine wpAny_Tuple_spliced (thn (h pos pins s σ H _ I hq) fun us s1 ⟨xs, H1, I1, r, z, q⟩ => ⟨by rw [← r.length]; exact z, ?_⟩)
  have hf : H1 s1.heap.objs.size = none := I1.hok.fresh (Nat.le_refl _)
  refine ⟨.ref s1.heap.objs.size, upd H1 s1.heap.objs.size (.tup xs), I1.laid (t' := s1.toks) (fun b u e => Heap.get?_push_of_some _ e) (Nat.le_refl _) ?_, rfl, q _ hf⟩
  exact ⟨z, us, r, ⟨_, Heap.get?_push_size _ rfl, rfl, _, rfl⟩⟩
theorem pe_lst (h : PA X es t) : PE X (.List es pos) (tLst t) := by
  intro pins s σ H Q I hq
  refine wpAny_List_spliced (thn (h pos pins s σ H _ I hq) fun us s1 ⟨xs, H1, I1, r, z, q⟩ => ⟨by rw [← r.length]; exact z, ?_⟩)
  have hf : H1 s1.heap.objs.size = none := I1.hok.fresh (Nat.le_refl _)
  refine ⟨.ref s1.heap.objs.size, upd H1 s1.heap.objs.size (.lst xs), I1.laid (t' := s1.toks) (fun b u e => Heap.get?_push_of_some _ e) (Nat.le_refl _) ?_, rfl, q _ hf⟩
  exact ⟨z, us, 0, r, Heap.get?_push_size _ rfl⟩
end

/-! ### what a def promises -/
/-- a def's promise: the bound arguments in the parameters' order, the heap, the wanted end, the wanted exception -/
abbrev Sp := List V → Hp → VK → XK → Prop
/-- how an exception lies behind a call (file 08 gives it): the callers' frames, abstract heap and state ahead of the call, the wish, the exception, the state -/
abbrev CXT := List Env → Hp → Shared → XK → Value → Shared → Prop

/-- the state at a call -/
structure Env0 (P : Program) (w : World) (K : PySem.W.Frag) (mg : Str → Option Value) (base : Heap) (A : Around) (outer : List Env) (s : Shared) (H : Hp) : Prop where
  frames : A.frames = some outer
  mod : Mod K mg base
  bs : ∀ b o, base.get? b = some o → s.heap.get? b = some o ∧ H b = none
  bsz : base.objs.size ≤ s.heap.objs.size
  funs : s.heap.FunFrames base outer
  frf : ∀ b ∈ frs outer, H b = none
  hok : HOk P w H s.heap
  bare : AllBare s.gens
/-- a call's end -/
def CE (outer : List Env) (P : Program) (w : World) (H : Hp) (s : Shared) (Q : VK) (u : Value) (s' : Shared) : Prop :=
  ∃ v H', s'.os = s.os ∧ AllBare s'.gens ∧ Un (frs outer) [] H H' s.heap s'.heap ∧ HOk P w H' s'.heap ∧ RelV v u ∧ Q v H'
def CR (CX : CXT) (outer : List Env) (P : Program) (w : World) (H : Hp) (s : Shared) (Q : VK) (E : XK) (r : Result) (s' : Shared) : Prop :=
  match r with
  | .ok (.ret u) => CE outer P w H s Q u s'
  | .ok _ => False
  | .error e => CX outer H s E e s'
structure FnOk (P : Program) (w : World) (K : PySem.W.Frag) (mg : Str → Option Value) (base : Heap) (CX : CXT) (k : Nat) (f : Addr) (fd : FuncData) (ps : List Str) (sp : Sp) : Prop where
  len : ∀ vs H Q E, sp vs H Q E → vs.length = ps.length
  run : ∀ (A : Around) (outer : List Env) (s : Shared) (H : Hp) (args : Args) (us : List Value) (vs : List V) (Q : VK) (E : XK), Room k A → Env0 P w K mg base A outer s H → BindsTo s fd args (ps.zip us) → Vals vs us → sp vs H Q E →
    codeAny (model P w) A (.call (.ref f) args) (CR CX outer P w H s Q E) s
theorem FnOk.mono {P : Program} {w : World} {K : PySem.W.Frag} {mg : Str → Option Value} {base : Heap} {CX : CXT} {j k : Nat} {f : Addr} {fd : FuncData} {ps : List Str} {sp : Sp} (F : FnOk P w K mg base CX j f fd ps sp) (h : j ≤ k) :
    FnOk P w K mg base CX k f fd ps sp := ⟨F.len, fun A outer s H args us vs Q E hr => F.run A outer s H args us vs Q E (hr.mono h)⟩
/-- a weaker promise -/
theorem FnOk.imp {P : Program} {w : World} {K : PySem.W.Frag} {mg : Str → Option Value} {base : Heap} {CX : CXT} {k : Nat} {f : Addr} {fd : FuncData} {ps : List Str} {sp sp' : Sp} (F : FnOk P w K mg base CX k f fd ps sp)
    (h : ∀ vs H Q E, sp' vs H Q E → sp vs H Q E) : FnOk P w K mg base CX k f fd ps sp' :=
  ⟨fun vs H Q E q => F.len vs H Q E (h _ _ _ _ q), fun A outer s H args us vs Q E hr he hb hv hs => F.run A outer s H args us vs Q E hr he hb hv (h _ _ _ _ hs)⟩

theorem Env0.make {P : Program} {w : World} {K : PySem.W.Frag} {mg : Str → Option Value} {base : Heap} {A : Around} {outer : List Env} {s : Shared} {H : Hp} (e : Env0 P w K mg base A outer s H) (C : Addr) (us : List Value) (kw : List (Str × Value)) :
    Env0 P w K mg base (A.under (.builtin "type.__call__" ⟨.ref C :: us, kw⟩)) outer s H := ⟨by first | exact e.frames | (simpa [Around.under, Code.envs, Code.isFrame, pushEnvs] using e.frames), e.mod, e.bs, e.bsz, e.funs, e.frf, e.hok, e.bare⟩
theorem Env0.in1 {P : Program} {w : World} {K : PySem.W.Frag} {mg : Str → Option Value} {base : Heap} {A : Around} {outer : List Env} {s : Shared} {H : Hp} (e : Env0 P w K mg base A outer s H) :
    Env0 P w K mg base A.in1 outer s H := ⟨e.frames, e.mod, e.bs, e.bsz, e.funs, e.frf, e.hok, e.bare⟩

section
variable {X : Cx} {pins : List (Addr × Obj)} {σ : St} {H : Hp} {s s' : Shared}
/-- from a body: what a callee wants -/
theorem Inv.env0 (I : Inv X pins σ H s) : Env0 X.prog X.w X.K X.mg X.base X.A X.stack s H :=
  ⟨I.ok.frames, I.ok.mod, I.bs, Nat.le_trans I.ok.bsz I.sz, I.stack, I.stkFree, I.hok, I.bare⟩
/-- behind a call -/
theorem Inv.after {Q : VK} {u : Value} (I : Inv X pins σ H s) (h : CE X.stack X.prog X.w H s Q u s') : EP X pins σ Q u s' := by
  obtain ⟨v, H', os, bare, un, hok, r, q⟩ := h
  obtain ⟨hh, g, d, t, os'⟩ := s'
  obtain rfl : os' = s.os := os
  exact ⟨v, H', I.call (h' := hh) (g' := g) (d' := d) (t' := t) (ch := []) un hok bare (fun b z => absurd z (by simp)), r, q⟩
end

/-! ### calls -/
/-- f(..): the written arguments, then the defaults dvs; E: what is wanted of an exception -/
def tCall (sp : Sp) (dvs : List V) (E : XK) (t : TA) : TE := fun σ H Q => t σ H fun vs H1 => sp (vs ++ dvs) H1 Q E
/-- o.m(..) of an instance of the class at C -/
def tMeth (C : Addr) (m : Str) (sp : Sp) (dvs : List V) (E : XK) (ta : TE) (t : TA) : TE := fun σ H Q => ta σ H fun x H1 => ∃ a dx fs, x = .ref a ∧ H1 a = some (.ins C dx fs) ∧ fs.lookup m = none ∧
  t σ H1 fun vs H2 => sp (x :: (vs ++ dvs)) H2 Q E
/-- C(..): a new instance and its dict, then __init__ -/
def tMake (C : Addr) (sp : Sp) (dvs : List V) (E : XK) (t : TA) : TE := fun σ H Q => t σ H fun vs H1 => ∀ x dx, H1 x = none → H1 dx = none → dx ≠ x →
  sp (.ref x :: (vs ++ dvs)) (upd (upd H1 dx (.own x)) x (.ins C dx [])) (fun v H2 => v = .non ∧ Q (.ref x) H2) E

/-- how the parameters are bound: us the positional arguments, kw the keywords' values by name, ds the defaults that fill up -/
def Binds (K : PySem.W.Frag) (fd : FuncData) (ps : List Str) (ds : List Value) : Prop :=
  ∀ (s : Shared) (us : List Value), K.In s.heap → (us ++ ds).length = ps.length → BindsTo s fd ⟨us, []⟩ (ps.zip (us ++ ds))
/-- every parameter is given -/
theorem Binds.all {K : PySem.W.Frag} {fd : FuncData} {ps : List Str} (h : ∀ us : List Value, us.length = ps.length → bindArgs fd ⟨us, []⟩ = pure (ps.zip us)) : Binds K fd ps [] := fun s us _ hl => by
  rw [List.append_nil] at hl ⊢
  exact .of_eq (h us hl)

/-- an exception of a callee reaches what this body wants of exceptions -/
def Passes (CX : CXT) (X : Cx) (E : XK) : Prop := ∀ (pins : List (Addr × Obj)) (σ : St) (H : Hp) (s : Shared) (e : Value) (s' : Shared), Inv X pins σ H s → CX X.stack H s E e s' → X.xe e s'

section
variable {X : Cx} {CX : CXT} {k : Nat} {f C : Addr} {fd : FuncData} {ps : List Str} {sp : Sp} {dvs : List V} {ds : List Value} {E : XK} {x m : Str} {p pos apos : Pos} {e o : Expr} {es : List Expr} {ta : TE} {t : TA}

/-- the callee runs -/
theorem run_fn {pins : List (Addr × Obj)} {σ : St} {H : Hp} {s : Shared} {Q : VK} {us : List Value} {vs : List V} (F : FnOk X.prog X.w X.K X.mg X.base CX k f fd ps sp) (hr : Room k X.A) (hb : Binds X.K fd ps ds) (hd : Vals dvs ds) (hx : Passes CX X E)
    (I : Inv X pins σ H s) (r : Vals vs us) (h : sp (vs ++ dvs) H Q E) : wpAny (model X.prog X.w) X.A (call (.ref f) us) (EP X pins σ Q) X.xe s := by
  have r2 : Vals (vs ++ dvs) (us ++ ds) := r.append hd
  have hl : (us ++ ds).length = ps.length := by rw [← r2.length]; exact F.len _ _ _ _ h
  refine wpAny_call (codeAny_mono (F.run X.A X.stack s H ⟨us, []⟩ (us ++ ds) (vs ++ dvs) Q E hr I.env0 (hb s us I.kIn hl) r2 h) fun r s' hq => ?_)
  cases r with
  | error e => exact hx pins σ H s e s' I hq
  | ok fl =>
    cases fl with
    | ret u => exact I.after hq
    | next => exact False.elim hq
    | brk => exact False.elim hq
    | cont => exact False.elim hq

theorem pe_call (F : FnOk X.prog X.w X.K X.mg X.base CX k f fd ps sp) (hr : Room k X.A) (hg : Gl X x) (hm : X.mg x = some (.ref f)) (hk : PySem.W.keepIn X.K (.ref f) = true) (hb : Binds X.K fd ps ds) (hd : Vals dvs ds) (hx : Passes CX X E)
    (ha : PA X (e :: es) t) (hdb : (x == ("__debug__" : Str)) = false := by decide) (he : starEach (e :: es) X.env = (false, eval e X.env) :: starEach es X.env := by rfl) (hpl : (backTo pos (starEach es X.env)).any (·.1) = false := by rfl) :
    PE X (.Call (.Name x p) (e :: es) [] pos) (tCall sp dvs E t) := by
  intro pins s σ H Q I h
  refine wpAny_Call_Name_kw (ld_glob I hg hm ?_ hdb)
  refine PySem.W.callWith_K (h₀ := X.base) I.ok.mod.kin hk (thn (ha pos pins s σ H _ I h) fun us s1 ⟨vs, H1, I1, r, q⟩ => ⟨I1.kIn, ?_⟩) he hpl
  exact run_fn F hr hb hd hx I1 r q
theorem pe_call0 (F : FnOk X.prog X.w X.K X.mg X.base CX k f fd ps sp) (hr : Room k X.A) (hg : Gl X x) (hm : X.mg x = some (.ref f)) (hk : PySem.W.keepIn X.K (.ref f) = true) (hb : Binds X.K fd ps ds) (hd : Vals dvs ds) (hx : Passes CX X E)
    (hdb : (x == ("__debug__" : Str)) = false := by decide) : PE X (.Call (.Name x p) [] [] pos) (tCall sp dvs E tNil) := by
  intro pins s σ H Q I h
  refine wpAny_Call_Name_kw (ld_glob I hg hm ?_ hdb)
  exact PySem.W.callWith_K0 I.kIn hk (run_fn (us := []) F hr hb hd hx I .nil h)

/-- o.m(e, ..) -/
theorem pe_meth {pl : Sem Bool} (he : PE X o ta) (c : Cls X.K C) (hm : Meth X.K C m f) (F : FnOk X.prog X.w X.K X.mg X.base CX k f fd ps sp) (hr : Room k X.A) (hb : Binds X.K fd ps ds) (hd : Vals dvs ds) (hx : Passes CX X E) (ha : PA X (e :: es) t)
    (hst : starEach (e :: es) X.env = (false, eval e X.env) :: starEach es X.env := by rfl) (hpl : (backTo pos (starEach es X.env)).any (·.1) = false := by rfl)
    (ht : eval (.Call (.Attribute o m apos) (e :: es) [] pos) X.env = (do
      let ov ← eval o X.env
      standAt apos.atName
      let (f, first) ← holding [ov] (getMethod ov m pl)
      callWith pos f first (backTo pos (starEach (e :: es) X.env)) (backToKw pos (keywordEach [] X.env))) := by rfl) :
    PE X (.Call (.Attribute o m apos) (e :: es) [] pos) (tMeth C m sp dvs E ta t) := by
  intro pins s σ H Q I h
  refine PySem.W.methodCall_KW (pl := pl) (thn (he pins s σ H _ I h) fun u s1 ⟨x, H1, I1, rx, a, dx, fs, ex, ea, l, q⟩ => ?_) ht
  subst ex
  obtain rfl : u = Value.ref a := rx
  refine getmeth_ok I1 ea c hm l ?_
  refine PySem.W.callWith_K (first := [.ref a]) (h₀ := X.base) I.ok.mod.kin hm.kp (thn (ha pos pins s1 σ H1 _ I1 q) fun us s2 ⟨vs, H2, I2, r, q2⟩ => ⟨I2.kIn, ?_⟩) hst hpl
  exact run_fn (us := .ref a :: us) (vs := .ref a :: vs) F hr hb hd hx I2 (.cons rfl r) q2
/-- o.m() -/
theorem pe_meth0 {pl : Sem Bool} (he : PE X o ta) (c : Cls X.K C) (hm : Meth X.K C m f) (F : FnOk X.prog X.w X.K X.mg X.base CX k f fd ps sp) (hr : Room k X.A) (hb : Binds X.K fd ps ds) (hd : Vals dvs ds) (hx : Passes CX X E)
    (ht : eval (.Call (.Attribute o m apos) [] [] pos) X.env = (do
      let ov ← eval o X.env
      standAt apos.atName
      let (f, first) ← holding [ov] (getMethod ov m pl)
      callWith pos f first (backTo pos (starEach [] X.env)) (backToKw pos (keywordEach [] X.env))) := by rfl) :
    PE X (.Call (.Attribute o m apos) [] [] pos) (tMeth C m sp dvs E ta tNil) := by
  intro pins s σ H Q I h
  refine PySem.W.methodCall_KW (pl := pl) (thn (he pins s σ H _ I h) fun u s1 ⟨x, H1, I1, rx, a, dx, fs, ex, ea, l, q⟩ => ?_) ht
  subst ex
  obtain rfl : u = Value.ref a := rx
  refine getmeth_ok I1 ea c hm l ?_
  exact PySem.W.callWith_K0 (first := [.ref a]) I1.kIn hm.kp (run_fn (us := [.ref a]) (vs := [.ref a]) F hr hb hd hx I1 (.cons rfl .nil) q)

/-- what a class must have to be made -/
structure Mk (K : PySem.W.Frag) (C f : Addr) : Prop where
  makes : PySem.W.makesIn K C = true
  init : PySem.W.findIn K (.ref C) "__init__" = some (some (.ref f))
  fn : PySem.W.isFn K (.ref f) = true
  kp : PySem.W.keepIn K (.ref C) = true

theorem run_make {pins : List (Addr × Obj)} {σ : St} {H : Hp} {s : Shared} {Q : VK} {us : List Value} {vs : List V} (M : Mk X.K C f) (F : FnOk X.prog X.w X.K X.mg X.base CX k f fd ps sp) (hr : Room (k + 1) X.A) (hb : Binds X.K fd ps ds) (hd : Vals dvs ds)
    (hx : Passes CX X E) (I : Inv X pins σ H s) (r : Vals vs us)
    (h : ∀ x dx, H x = none → H dx = none → dx ≠ x → sp (.ref x :: (vs ++ dvs)) (upd (upd H dx (.own x)) x (.ins C dx [])) (fun v H2 => v = .non ∧ Q (.ref x) H2) E) :
    wpAny (model X.prog X.w) X.A (call (.ref C) us) (EP X pins σ Q) X.xe s := by
  have hq := h (s.heap.objs.size + 1) s.heap.objs.size (I.hok.fresh (Nat.le_succ _)) (I.hok.fresh (Nat.le_refl _)) (Nat.ne_of_lt (Nat.lt_succ_self _))
  have I2 := Inv.made (C := C) I
  have r2 : Vals (V.ref (s.heap.objs.size + 1) :: (vs ++ dvs)) (Value.ref (s.heap.objs.size + 1) :: (us ++ ds)) := .cons rfl (r.append hd)
  have hl : (Value.ref (s.heap.objs.size + 1) :: us ++ ds).length = ps.length := by
    have e := r2.length
    rw [F.len _ _ _ _ hq] at e
    exact e.symm
  refine wpAny_call (make_map (f := f) I.kIn M.makes M.init (beq_iff_eq.mp M.fn) (codeAny_mono (F.run _ X.stack _ _ ⟨Value.ref (s.heap.objs.size + 1) :: us, []⟩ (Value.ref (s.heap.objs.size + 1) :: (us ++ ds)) _ _ E (hr.make C us [])
    (I2.env0.make C us []) (hb _ (Value.ref (s.heap.objs.size + 1) :: us) I2.kIn hl) r2 hq) fun r s' hq' => ?_))
  cases r with
  | error e => exact hx pins σ _ _ e s' I2 hq'
  | ok fl =>
    cases fl with
    | ret u =>
      obtain ⟨v, H', I3, rv, ev, q3⟩ := I2.after hq'
      subst ev
      exact ⟨rv, ⟨V.ref (s.heap.objs.size + 1), H', I3, rfl, q3⟩⟩
    | next => exact False.elim hq'
    | brk => exact False.elim hq'
    | cont => exact False.elim hq'
theorem pe_make (M : Mk X.K C f) (F : FnOk X.prog X.w X.K X.mg X.base CX k f fd ps sp) (hr : Room (k + 1) X.A) (hg : Gl X x) (hm : X.mg x = some (.ref C)) (hb : Binds X.K fd ps ds) (hd : Vals dvs ds) (hx : Passes CX X E)
    (ha : PA X (e :: es) t) (hdb : (x == ("__debug__" : Str)) = false := by decide) (he : starEach (e :: es) X.env = (false, eval e X.env) :: starEach es X.env := by rfl) (hpl : (backTo pos (starEach es X.env)).any (·.1) = false := by rfl) :
    PE X (.Call (.Name x p) (e :: es) [] pos) (tMake C sp dvs E t) := by
  intro pins s σ H Q I h
  refine wpAny_Call_Name_kw (ld_glob I hg hm ?_ hdb)
  refine PySem.W.callWith_K (h₀ := X.base) I.ok.mod.kin M.kp (thn (ha pos pins s σ H _ I h) fun us s1 ⟨vs, H1, I1, r, q⟩ => ⟨I1.kIn, ?_⟩) he hpl
  exact run_make M F hr hb hd hx I1 r q
theorem pe_make0 (M : Mk X.K C f) (F : FnOk X.prog X.w X.K X.mg X.base CX k f fd ps sp) (hr : Room (k + 1) X.A) (hg : Gl X x) (hm : X.mg x = some (.ref C)) (hb : Binds X.K fd ps ds) (hd : Vals dvs ds) (hx : Passes CX X E)
    (hdb : (x == ("__debug__" : Str)) = false := by decide) : PE X (.Call (.Name x p) [] [] pos) (tMake C sp dvs E tNil) := by
  intro pins s σ H Q I h
  refine wpAny_Call_Name_kw (ld_glob I hg hm ?_ hdb)
  exact PySem.W.callWith_K0 I.kIn M.kp (run_make (us := []) M F hr hb hd hx I .nil h)
end

/-! ### keywords -/
/-- the values of the keywords, from the left -/
def PK (X : Cx) (kws : List Keyword) (t : TA) : Prop :=
  ∀ (pos : Pos) (pins : List (Addr × Obj)) (s : Shared) (σ : St) (H : Hp) (Q : List V → Hp → Prop), Inv X pins σ H s → t σ H Q → wpAny (model X.prog X.w) X.A (evalAll ((backToKw pos (keywordEach kws X.env)).map (·.2))) (AP X pins σ Q) X.xe s
section
variable {X : Cx} {CX : CXT} {k : Nat} {f C : Addr} {fd : FuncData} {ps ks : List Str} {sp : Sp} {E : XK} {x m : Str} {p pos apos kpos : Pos} {e o : Expr} {es : List Expr} {kws : List Keyword} {te ta : TE} {t tk : TA} {nm : Option Str}
theorem pk_nil : PK X [] tNil := fun _ _ _ _ H Q I h => wpAny_evalAll_nil ⟨[], H, I, .nil, h⟩
theorem pk_cons (ha : PE X e te) (hr : PK X kws t) : PK X (⟨nm, e, kpos⟩ :: kws) (tCons te t) := by
  intro pos pins s σ H Q I h
  show wpAny _ _ (evalAll ((do let v ← eval e X.env; standAt pos; pure v) :: (backToKw pos (keywordEach kws X.env)).map (·.2))) _ _ s
  refine wpAny_evalAll_cons (wpAny_bind (thn (ha pins s σ H _ I h) fun u s1 ⟨x, H1, I1, r1, q1⟩ => wpAny_bind (wpAny_standAt (wpAny_pure ?_))))
  exact thn (hr pos pins s1 σ H1 _ I1 q1) fun us s2 ⟨xs, H2, I2, r2, q2⟩ => ⟨x :: xs, H2, I2, .cons r1 r2, q2⟩

/-- how a call with keywords binds: g puts the positional values us and the keywords' values ws (names ks) in the parameters' order, defaults among them -/
structure KBinds (K : PySem.W.Frag) (fd : FuncData) (ps ks : List Str) (g : List Value → List Value → List Value) (gV : List V → List V → List V) : Prop where
  to : ∀ (s : Shared) (us ws : List Value), K.In s.heap → (g us ws).length = ps.length → BindsTo s fd ⟨us, ks.zip ws⟩ (ps.zip (g us ws))
  rel : ∀ {vs : List V} {us : List Value} {zs : List V} {ws : List Value}, Vals vs us → Vals zs ws → Vals (gV vs zs) (g us ws)
def tCallK (sp : Sp) (gV : List V → List V → List V) (E : XK) (t tk : TA) : TE := fun σ H Q => t σ H fun vs H1 => tk σ H1 fun zs H2 => sp (gV vs zs) H2 Q E
variable {g : List Value → List Value → List Value} {gV : List V → List V → List V}
theorem run_fnk {pins : List (Addr × Obj)} {σ : St} {H : Hp} {s : Shared} {Q : VK} {us ws : List Value} {vs zs : List V} (F : FnOk X.prog X.w X.K X.mg X.base CX k f fd ps sp) (hr : Room k X.A) (hb : KBinds X.K fd ps ks g gV) (hx : Passes CX X E)
    (I : Inv X pins σ H s) (r : Vals vs us) (rz : Vals zs ws) (h : sp (gV vs zs) H Q E) : wpAny (model X.prog X.w) X.A (call (.ref f) us (ks.zip ws)) (EP X pins σ Q) X.xe s := by
  have r2 := hb.rel r rz
  have hl : (g us ws).length = ps.length := by rw [← r2.length]; exact F.len _ _ _ _ h
  refine wpAny_call (codeAny_mono (F.run X.A X.stack s H ⟨us, ks.zip ws⟩ (g us ws) (gV vs zs) Q E hr I.env0 (hb.to s us ws I.kIn hl) r2 h) fun r s' hq => ?_)
  cases r with
  | error e => exact hx pins σ H s e s' I hq
  | ok fl =>
    cases fl with
    | ret u => exact I.after hq
    | next => exact False.elim hq
    | brk => exact False.elim hq
    | cont => exact False.elim hq
/-- f(e, .., k = v, ..) -/
theorem pe_callK (F : FnOk X.prog X.w X.K X.mg X.base CX k f fd ps sp) (hr : Room k X.A) (hg : Gl X x) (hm : X.mg x = some (.ref f)) (hk : PySem.W.keepIn X.K (.ref f) = true) (hb : KBinds X.K fd ps ks g gV) (hx : Passes CX X E)
    (ha : PA X (e :: es) t) (hkw : PK X kws tk) (hall : (backToKw pos (keywordEach kws X.env)).all (·.1.isSome) = true := by rfl) (hks : (backToKw pos (keywordEach kws X.env)).filterMap (·.1) = ks := by rfl)
    (hdb : (x == ("__debug__" : Str)) = false := by decide) (he : starEach (e :: es) X.env = (false, eval e X.env) :: starEach es X.env := by rfl)
    (hpl : ((backTo pos (starEach (e :: es) X.env)).any (·.1) || (backToKw pos (keywordEach kws X.env)).any (·.1.isNone)) = false := by rfl) :
    PE X (.Call (.Name x p) (e :: es) kws pos) (tCallK sp gV E t tk) := by
  intro pins s σ H Q I h
  refine wpAny_Call_Name_kw (ld_glob I hg hm ?_ hdb)
  refine PySem.W.callWith_KW (h₀ := X.base) I.ok.mod.kin hk hall (thn (ha pos pins s σ H _ I h) fun us s1 ⟨vs, H1, I1, r, q⟩ => ?_) hpl he
  refine thn (hkw pos pins s1 σ H1 _ I1 q) fun ws s2 ⟨zs, H2, I2, rz, q2⟩ => ⟨I2.kIn, ?_⟩
  rw [hks]
  exact run_fnk F hr hb hx I2 r rz q2
end

/-! ### a def's body keeps its promise -/
/-- names: the parameters first -/
structure FnScope (N P : List Str) (sc : Scope) : Prop where
  kind : sc.kind = .function
  co : sc.isCoroutine = false
  gen : sc.isGenerator = false
  nd : N.Nodup
  pre : N.take P.length = P
  par : ∀ x ∈ P, sc.names.lookup x = some .local ∨ sc.names.lookup x = some .cell
  nofree : ∀ y ∈ sc.names, y.2 ≠ .free

theorem bindL_out {kindOf : Str → Option NameKind} {x : Str} : ∀ {binds : List (Str × Value)} {m : Str → Option Value}, (∀ v, (x, v) ∉ binds) → bindL kindOf binds m x = m x
  | [], _, _ => rfl
  | (n, v) :: r, m, h => by
    unfold bindL
    rw [bindL_out fun w hw => h w (List.mem_cons_of_mem _ hw)]
    split
    · have : x ≠ n := by rintro rfl; exact h v List.mem_cons_self
      simp [this]
    · rfl
theorem bindC_out {kindOf : Str → Option NameKind} {x : Str} : ∀ {binds : List (Str × Value)} {m : Str → Option Value}, (∀ v, (x, v) ∉ binds) → bindC kindOf binds m x = m x
  | [], _, _ => rfl
  | (n, v) :: r, m, h => by
    unfold bindC
    rw [bindC_out fun w hw => h w (List.mem_cons_of_mem _ hw)]
    split
    · rfl
    · have : x ≠ n := by rintro rfl; exact h v List.mem_cons_self
      simp [this]
theorem bindL_get {kindOf : Str → Option NameKind} {x : Str} {v : Value} : ∀ {P : List Str} {vs : List Value} {i : Nat} {m : Str → Option Value}, P.Nodup → P[i]? = some x → vs[i]? = some v → kindOf x = some .local →
    bindL kindOf (P.zip vs) m x = some v
  | [], _, _, _, _, h, _, _ => by simp at h
  | _ :: _, [], _, _, _, _, h, _ => by simp at h
  | p :: P, w :: vs, 0, m, nd, h1, h2, hk => by
    simp at h1 h2; subst h1; subst h2
    show bindL kindOf ((p, w) :: P.zip vs) m p = _
    unfold bindL
    rw [bindL_out fun v hv => (List.nodup_cons.mp nd).1 (List.of_mem_zip hv).1, if_pos hk]
    simp
  | p :: P, w :: vs, i + 1, m, nd, h1, h2, hk => by
    show bindL kindOf ((p, w) :: P.zip vs) m x = _
    unfold bindL
    exact bindL_get (i := i) (List.nodup_cons.mp nd).2 (by simpa using h1) (by simpa using h2) hk
theorem bindC_get {kindOf : Str → Option NameKind} {x : Str} {v : Value} : ∀ {P : List Str} {vs : List Value} {i : Nat} {m : Str → Option Value}, P.Nodup → P[i]? = some x → vs[i]? = some v → kindOf x ≠ some .local →
    bindC kindOf (P.zip vs) m x = some v
  | [], _, _, _, _, h, _, _ => by simp at h
  | _ :: _, [], _, _, _, _, h, _ => by simp at h
  | p :: P, w :: vs, 0, m, nd, h1, h2, hk => by
    simp at h1 h2; subst h1; subst h2
    show bindC kindOf ((p, w) :: P.zip vs) m p = _
    unfold bindC
    rw [bindC_out fun v hv => (List.nodup_cons.mp nd).1 (List.of_mem_zip hv).1, if_neg hk]
    simp
  | p :: P, w :: vs, i + 1, m, nd, h1, h2, hk => by
    show bindC kindOf ((p, w) :: P.zip vs) m x = _
    unfold bindC
    exact bindC_get (i := i) (List.nodup_cons.mp nd).2 (by simpa using h1) (by simpa using h2) hk

/-- the names' values at the entry -/
def start (N : List Str) (vs : List V) : St := vs.map some ++ List.replicate (N.length - vs.length) none

/-- the context of a def's body, at its entry; an exception leaves the frame, then lies as CX says -/
def cxOf (CX : CXT) (P : Program) (w : World) (K : PySem.W.Frag) (mg : Str → Option Value) (base : Heap) (N : List Str) (qual : Str) (scope : Scope) (f : Addr) (cd : Value) (A : Around) (outer : List Env) (s : Shared) (H : Hp) (E : XK) : Cx where
  prog := P
  w := w
  K := K
  mg := mg
  base := base
  A := A.deeper (envOfC qual scope s.heap.objs.size f cd)
  N := N
  s₀ := s
  H₀ := H
  env := envOfC qual scope s.heap.objs.size f cd
  outer := outer
  stack := envOfC qual scope s.heap.objs.size f cd :: outer
  ex := []
  calm := true
  fn := fun _ => true
  pn := []
  xe := fun e s' => wpAny (model P w) (A.deeper (envOfC qual scope s.heap.objs.size f cd)) (leaving (envOfC qual scope s.heap.objs.size f cd) e) (fun _ s'' => CX outer H s E e s'') (fun e' s'' => CX outer H s E e' s'') s'

theorem cell_has {sc : Scope} {n : Nat} {x : Str} (h : sc.names.lookup x = some .cell) : ∃ c, (cellsFrom n sc.names []).lookup x = some c := by
  have q := PySem.W.cellsFrom_some sc.names n [] (.inl h)
  exact Option.isSome_iff_exists.mp q

theorem inv_start {CX : CXT} {P : Program} {w : World} {K : PySem.W.Frag} {mg : Str → Option Value} {base : Heap} {N ps : List Str} {qual : Str} {scope : Scope} {f : Addr} {cd : Value} {A : Around} {outer : List Env} {s s1 : Shared} {H : Hp} {E : XK} {us : List Value} {vs : List V}
    (S : FnScope N ps scope) (hd : A.handled = none) (e0 : Env0 P w K mg base A outer s H) (hl : vs.length = ps.length) (r : Vals vs us)
    (x : InCallC s s.heap.objs.size (bindL (envOfC qual scope s.heap.objs.size f cd).kindOf (ps.zip us) fun _ => none) (cellsFrom (s.heap.objs.size + 1) scope.names []) (bindC (envOfC qual scope s.heap.objs.size f cd).kindOf (ps.zip us) fun _ => none) s1) :
    Inv (cxOf CX P w K mg base N qual scope f cd A outer s H E) [] (start N vs) H s1 := by
  have hpl : ps.length ≤ N.length := by have := congrArg List.length S.pre; rw [List.length_take] at this; omega
  obtain ⟨h1, tk, rfl, hk⟩ := x.done
  have noA : ∀ b : Addr, b ∉ (cxOf CX P w K mg base N qual scope f cd A outer s H E).ex := fun b z => absurd (show b ∈ ([] : List Addr) from z) (by simp)
  refine ⟨⟨e0.mod, S.kind, rfl, rfl, Nat.le_refl _, fun y z c h1 h2 => ?_, fun y hy => ?_, fun y c _ h => ?_, fun _ => hd, Around.frames_deeper e0.frames, .inr ⟨rfl, rfl⟩, fun b z => absurd z (noA b), e0.bs, e0.bsz, fun b _ _ => noA b, fun b z => absurd z (noA b), e0.funs, e0.frf⟩,
    rfl, e0.bare, Un.kept hk, ⟨_, x.toInCall.ns, fun i y v h1 h2 h3 => ?_⟩, fun y c h => ⟨_, x.cell y c h⟩, e0.hok.fresh (Nat.le_refl _), fun y c h => ?_, fun p hp => absurd (show p ∈ ([] : List (Addr × Obj)) from hp) (by simp), e0.hok.kept hk, ?_⟩
  · exact name_of_addr x.apart (PySem.mem_of_lookup h1) (PySem.mem_of_lookup h2)
  · have hy : scope.names.lookup y = some .cell ∨ scope.names.lookup y = some .free := hy
    rcases hy with hy | hy
    · exact cell_has hy
    · exact absurd rfl (S.nofree _ (PySem.mem_of_lookup hy))
  · exact Nat.le_of_lt (x.above y c (PySem.mem_of_lookup h))
  · have hi : i < vs.length := by
      unfold start at h2
      by_cases hi : i < vs.length
      · exact hi
      · rw [List.getElem?_append_right (by simpa using hi)] at h2
        rw [List.getElem?_replicate] at h2
        split at h2 <;> cases h2
    have ha : vs[i]? = some v := by
      unfold start at h2
      rw [List.getElem?_append_left (by simpa using hi), List.getElem?_map] at h2
      cases e : vs[i]? with
      | none => rw [e] at h2; cases h2
      | some a => rw [e] at h2; cases h2; rfl
    obtain ⟨u, hu, rv⟩ := r.get ha
    have hp : ps[i]? = some y := by
      rw [← S.pre, List.getElem?_take_of_lt (by omega)]; exact h1
    have ndP : ps.Nodup := by rw [← S.pre]; exact S.nd.sublist (List.take_sublist _ _)
    refine ⟨u, rv, ?_⟩
    rcases S.par y (List.mem_of_getElem? hp) with k | k
    · exact .inl ⟨k, bindL_get ndP hp hu k⟩
    · obtain ⟨c, e⟩ := cell_has (n := s.heap.objs.size + 1) k
      refine .inr ⟨.inl k, c, e, ?_⟩
      have q := x.cell y c e
      rw [bindC_get ndP hp hu (by show scope.names.lookup y ≠ _; rw [k]; decide)] at q
      exact q
  · exact e0.hok.fresh (Nat.le_of_lt (x.above y c (PySem.mem_of_lookup h)))
  · unfold start
    show _ = N.length
    rw [List.length_append, List.length_map, List.length_replicate]
    omega

/-- THE RULE: a def (or a method) of the text, by its body. The body's reading t is chosen for each entry; it is run at the parameters' values -/
theorem fn_of {CX : CXT} {P : Program} {w : World} {K : PySem.W.Frag} {mg : Str → Option Value} {base : Heap} {k : Nat} {f : Addr} {name qual : Str} {params : Arguments} {body : List Stmt} {scope : Scope} {dV kV doc pm cdv ct oc : Value} {an od : Option Addr}
    {osl : Array (Option Value)} {N ps : List Str} {sp : Sp} (lk : K.lookup f = some ⟨oc, od, .func (PySem.W.fnOf name qual params body scope dV kV doc pm an cdv ct), osl⟩) (hcd : PySem.W.codeIn K cdv qual = true) (S : FnScope N ps scope)
    (len : ∀ vs H Q E, sp vs H Q E → vs.length = ps.length)
    (hbody : ∀ (A : Around) (outer : List Env) (s : Shared) (H : Hp) (vs : List V) (Q : VK) (E : XK), Room k (A.deeper (envOfC qual scope s.heap.objs.size f cdv)) → sp vs H Q E →
      ∃ t, PSs (cxOf CX P w K mg base N qual scope f cdv A outer s H E) body t ∧ t { nx := fun _ H' => Q .non H', rt := Q } (start N vs) H) :
    FnOk P w K mg base CX (k + 1) f (PySem.W.fnOf name qual params body scope dV kV doc pm an cdv ct) ps sp := by
  refine ⟨len, fun A outer s H args us vs Q E hr e0 hb r hsp => ?_⟩
  have hl := len _ _ _ _ hsp
  have KX : K.In s.heap := e0.mod.kin.keeps fun b o e => (e0.bs b o e).1
  have lim : s.heap.NoLimit := e0.mod.nolimit.keeps fun b o e => (e0.bs b o e).1
  have hkind : ∀ y ∈ ps.zip us, scope.names.lookup y.1 = some .local ∨ (scope.names.lookup y.1 = some .cell ∧ ((cellsFrom (s.heap.objs.size + 1) scope.names []).lookup y.1).isSome = true) := fun ⟨n, v⟩ hy => by
    rcases S.par n (List.of_mem_zip hy).1 with q | q
    · exact .inl q
    · exact .inr ⟨q, PySem.W.cellsFrom_some _ _ _ (.inl q)⟩
  refine codeAny_call_function hr.depth (KX _ _ lk) rfl S.co S.gen rfl (PySem.W.codeRec_of KX hcd) (hb _ _ _ _ ?_)
  refine wpAny_newFunctionEnv_cells S.kind hkind fun env he s1 x => ?_
  subst he
  refine ⟨lim.keeps x.toInCall.keep, codeAny_func ?_⟩
  obtain ⟨t, ht, hq⟩ := hbody A outer s H vs Q E (hr.deeper _) hsp
  have I : Inv (cxOf CX P w K mg base N qual scope f cdv A outer s H E) [] (start N vs) H s1 := inv_start S hr.hd e0 hl r x
  refine wpAny_mono (ht [] s1 (start N vs) H _ I hq) (fun fl s' hs => ?_) fun e s' hs => hs
  have fin : ∀ {σ' : St} {H' : Hp} {v : V} {u : Value}, Inv (cxOf CX P w K mg base N qual scope f cdv A outer s H E) [] σ' H' s' → RelV v u → Q v H' → CE outer P w H s Q u s' :=
    fun {σ' H' v u} J rv q => ⟨v, H', J.os, J.bare, J.base, J.hok, rv, q⟩
  cases fl with
  | ret u =>
    obtain ⟨v, σ', H', J, rv, q⟩ := hs
    exact fin J rv q
  | next =>
    obtain ⟨σ', H', J, q⟩ := hs
    exact fin (v := V.non) (u := Value.none) J rfl q
  | brk =>
    obtain ⟨_, _, _, q⟩ := hs
    exact False.elim q
  | cont =>
    obtain ⟨_, _, _, q⟩ := hs
    exact False.elim q
end L2

namespace L2
open PySem PySem.Spec PyProof.Rows
section
variable {X : Cx} {x : Str} {p pos : Pos} {e : Expr} {es : List Expr} {t : TA} {id T : String} {r : List V → Hp → VK → Prop}

def tCB (r : List V → Hp → VK → Prop) (t : TA) : TE := fun σ H Q => t σ H fun vs H1 => r vs H1 Q
/-- f(e, ..), f a built-in function -/
theorem pe_callB (hc : CallR X (.builtin id) r) (hg : Gl X x) (hm : X.mg x = none) (hv : bootBuiltins x = some (.builtin id)) (ha : PA X (e :: es) t) (hn : x ≠ "__name__" := by decide) (hdb : (x == ("__debug__" : Str)) = false := by decide)
    (he : starEach (e :: es) X.env = (false, eval e X.env) :: starEach es X.env := by rfl) (hpl : (backTo pos (starEach es X.env)).any (·.1) = false := by rfl) : PE X (.Call (.Name x p) (e :: es) [] pos) (tCB r t) := by
  intro pins s σ H Q I h
  refine wpAny_Call_Name_kw (ld_blt I hg hm hv ?_ hn hdb)
  exact PyProof.Rows.callWith_builtin1 (thn (ha pos pins s σ H _ I h) fun us s1 ⟨vs, H1, I1, r1, q1⟩ => hc pins s1 σ H1 vs us Q I1 r1 q1) he hpl
/-- T(e, ..), T a built-in type -/
theorem pe_callTy (hc : CallR X (.type T) r) (hg : Gl X x) (hm : X.mg x = none) (hv : bootBuiltins x = some (.type T)) (ha : PA X (e :: es) t) (hn : x ≠ "__name__" := by decide) (hdb : (x == ("__debug__" : Str)) = false := by decide)
    (he : starEach (e :: es) X.env = (false, eval e X.env) :: starEach es X.env := by rfl) (hpl : (backTo pos (starEach es X.env)).any (·.1) = false := by rfl) : PE X (.Call (.Name x p) (e :: es) [] pos) (tCB r t) := by
  intro pins s σ H Q I h
  refine wpAny_Call_Name_kw (ld_blt I hg hm hv ?_ hn hdb)
  exact PyProof.Rows.callWith_type1 (thn (ha pos pins s σ H _ I h) fun us s1 ⟨vs, H1, I1, r1, q1⟩ => hc pins s1 σ H1 vs us Q I1 r1 q1) he hpl
/-- T() -/
theorem pe_callTy0 (hc : CallR X (.type T) r) (hg : Gl X x) (hm : X.mg x = none) (hv : bootBuiltins x = some (.type T)) (hn : x ≠ "__name__" := by decide) (hdb : (x == ("__debug__" : Str)) = false := by decide) :
    PE X (.Call (.Name x p) [] [] pos) (tCB r tNil) := by
  intro pins s σ H Q I h
  refine wpAny_Call_Name_kw (ld_blt I hg hm hv ?_ hn hdb)
  exact PyProof.Rows.callWith_type0 (hc pins s σ H [] [] Q I .nil h)
end
end L2

namespace HT
open PySem PyProof.Rows

/-- t < u of tuples of ints -/
def lexLt : List Int → List Int → Bool
  | [], [] => false
  | [], _ :: _ => true
  | _ :: _, [] => false
  | x :: xs, y :: ys => if x = y then lexLt xs ys else decide (x < y)
theorem lexLt_cons (x y : Int) (xs ys : List Int) : lexLt (x :: xs) (y :: ys) = if x = y then lexLt xs ys else decide (x < y) := rfl
theorem lexLt_nil_nil : lexLt [] [] = false := rfl
theorem lexLt_nil_cons (y : Int) (ys : List Int) : lexLt [] (y :: ys) = true := rfl
theorem lexLt_cons_nil (x : Int) (xs : List Int) : lexLt (x :: xs) [] = false := rfl

theorem eqAt_int (A : Around) (s : Shared) (a : Int) (t : Tok) (c : Int) (u : Tok) : ∃ e, SeqAt.EqAt A s (.int a t) (.int c u) e ∧ (e = true ↔ a = c) :=
  ⟨(a == c), SeqAt.EqAt.int_int a t c u, by simp⟩
theorem rcLt_int (A : Around) (s : Shared) (a : Int) (t : Tok) (c : Int) (u : Tok) (prog : Program) (w : World) (E : Value → Shared → Prop) (Q : Value → Shared → Prop) (h : Q (.bool (decide (a < c))) s) :
    wpAny (model prog w) A (richCompare .Lt (.int a t) (.int c u)) Q E s :=
  (PyProof.Rows.lt_int h : wpAny (model prog w) A (compareOp .Lt (.int a t) (.int c u)) Q E s)

section
open PySem.SeqAt
open PySem.AutoSeq1 (wpAny_loadPart')
open PySem.MeetsSeq PySem.MeetsSeq2 PySem.MeetsSeq3

theorem tuple_lt_ints (l b : Addr) (items items2 : Array Value) (n n2 : Nat) (dd dd2 : Option Addr) (sl sl2 : Array (Option Value)) (ns ms : List Int) (hi : IntsAre items.toList ns) (hj : IntsAre items2.toList ms) :
    Meets (Builtin.«tuple.__lt__» ⟨[.ref l, .ref b], []⟩)
      (fun _ R s => s.heap.get? l = some { cls := .type "tuple", dict := dd, data := .seq items n, slots := sl } ∧ s.heap.get? b = some { cls := .type "tuple", dict := dd2, data := .seq items2 n2, slots := sl2 } ∧
        R (.ok (.ret (.bool (lexLt ns ms)))) s) :=
  .of_wp fun prog w A R s h => by
    obtain ⟨hp, g, d, tk, os⟩ := s; obtain ⟨hl, hb, h⟩ := h
    have f2 := AutoSeq1.sub_tuple_tuple
    have z1 : items.size = ns.length := by rw [← hi.length]; simp
    have z2 : items2.size = ms.length := by rw [← hj.length]; simp
    wp_walk using wpAny_loadPart' hl, wpAny_loadPart' hb, wpAny_forIn_list _ (fun rest b s' => b.1 = none ∧ s' = ⟨hp, g, d, tk, os⟩ ∧ ∃ (vs ws : List Value) (ns' ms' : List Int), rest = vs.zip ws ∧
      IntsAre vs ns' ∧ IntsAre ws ms' ∧ ns'.length + items2.size = ms'.length + items.size ∧ R (.ok (.ret (.bool (lexLt ns' ms')))) ⟨hp, g, d, tk, os⟩) _
    case turn =>
      rintro ⟨y, x⟩ rest b s' ⟨hb', rfl, vs, ws, ns', ms', hz, hvi, hwi, hlen, hR⟩
      cases hvi with
      | nil => rw [List.zip_nil_left] at hz; cases hz
      | cons a t hvi' =>
        cases hwi with
        | nil => rw [List.zip_nil_right] at hz; cases hz
        | cons c u hwi' =>
          rw [List.zip_cons_cons] at hz
          injection hz with hyx hrest
          injection hyx with hy hx
          subst hy hx
          rw [lexLt_cons] at hR
          simp only [List.length_cons] at hlen
          obtain ⟨e, he, hiff⟩ := eqAt_int A.in1 ⟨hp, g, d, tk, os⟩ a t c u
          refine wpAny_bind (he prog w _ _ ?_)
          cases e with
          | true =>
            rw [if_pos (hiff.mp rfl)] at hR
            wp_walk
            exact ⟨rfl, rfl, _, _, _, _, hrest, hvi', hwi', by omega, hR⟩
          | false =>
            rw [if_neg (fun q => absurd (hiff.mpr q) Bool.false_ne_true)] at hR
            have hri := rcLt_int A.in1 ⟨hp, g, d, tk, os⟩ a t c u prog w
            wp_walk using hri
            exact ⟨_, rfl, by simpa using hR⟩
    case fin =>
      rintro ⟨b1, b2⟩ s' ⟨hb', rfl, vs, ws, ns', ms', hz, hvi, hwi, hlen, hR⟩
      simp only at hb'
      subst hb'
      have hv : lexLt ns' ms' = decide (items.size < items2.size) := by
        cases hvi with
        | nil =>
          cases hwi with
          | nil =>
            simp only [List.length_nil] at hlen
            rw [lexLt_nil_nil]
            exact (decide_eq_false (by omega)).symm
          | cons c u hw =>
            simp only [List.length_nil, List.length_cons] at hlen
            rw [lexLt_nil_cons]
            exact (decide_eq_true (by omega)).symm
        | cons a t hv =>
          cases hwi with
          | nil =>
            simp only [List.length_nil, List.length_cons] at hlen
            rw [lexLt_cons_nil]
            exact (decide_eq_false (by omega)).symm
          | cons c u hw =>
            rw [List.zip_cons_cons] at hz
            cases hz
      rw [hv] at hR
      wp_walk
      exact ⟨_, rfl, by simpa [Builtin.Tuple.tupleCompareSizes] using hR⟩
    case h =>
      exact ⟨rfl, rfl, items.toList, items2.toList, ns, ms, rfl, hi, hj, by omega, h⟩
end

section
variable {prog : Program} {w : World} {A : Around} {E : Value → Shared → Prop} {s : Shared}

theorem lt_tupInts {l b : Addr} {items items2 : Array Value} {ns ms : List Int} {Q : Value → Shared → Prop} (hl : IsTup s.heap l items) (hb : IsTup s.heap b items2) (hi : IntsAre items.toList ns) (hj : IntsAre items2.toList ms)
    (hu : A.units < cLine) (h : Q (.bool (lexLt ns ms)) s) : wpAny (model prog w) A (compareOp .Lt (.ref l) (.ref b)) Q E s := by
  obtain ⟨⟨cls, dd, data, sl⟩, ho, hc, n, hd⟩ := id hl
  obtain ⟨⟨cls2, dd2, data2, sl2⟩, ho2, hc2, n2, hd2⟩ := id hb
  simp only at hc hd hc2 hd2
  subst hc hd hc2 hd2
  exact richCompare_meets_room (op := .Lt) ⟨_, ho, rfl⟩ ⟨_, ho2, rfl⟩ PySem.F.slot_tuple_lt PySem.F.entry_tuple_lt (PySem.F.args_tuple_lt_2 _ _) (tuple_lt_ints l b items items2 n n2 dd dd2 sl sl2 ns ms hi hj)
    ⟨ho, ho2, show Value.bool (lexLt ns ms) ≠ Value.notImplemented ∧ Q (.bool (lexLt ns ms)) s from ⟨(fun x => nomatch x), h⟩⟩ hu

/-- t + u, t not empty -/
theorem cat_tup {t b : Addr} {vs ws : List Value} {Q : Value → Shared → Prop} (ht : IsTup s.heap t vs.toArray) (hb : IsTup s.heap b ws.toArray) (hv : vs ≠ [])
    (h1 : ws = [] → Q (.ref t) s) (h2 : ws ≠ [] → Q (.ref s.heap.objs.size) { s with heap := s.heap.push { cls := .type "tuple", data := .seq (vs ++ ws).toArray } })
    (hsz : vs.length + ws.length ≤ sizeLine) : wpAny (model prog w) A (binaryOp .Add (.ref t) (.ref b)) Q E s := by
  obtain ⟨⟨cls, dd, data, sl⟩, ho, hc, n, hd⟩ := id ht
  obtain ⟨⟨cls2, dd2, data2, sl2⟩, ho2, hc2, n2, hd2⟩ := id hb
  simp only at hc hd hc2 hd2
  subst hc hd hc2 hd2
  have e : vs.toArray ++ ws.toArray = (vs ++ ws).toArray := by simp
  by_cases hw : ws = []
  · exact concat_meets ⟨_, ho, rfl⟩ ⟨_, ho2, rfl⟩ noFill_tuple_add seq_tuple_add PySem.F.slot_tuple_add PySem.F.entry_tuple_add (PySem.F.args_tuple_add_2 _ _)
      (tuple_addW1 t b vs.toArray ws.toArray n n2 dd dd2 sl sl2 (by simpa using hv) (by simp [hw])) ⟨ho, ho2, h1 hw⟩
  · refine concat_meets ⟨_, ho, rfl⟩ ⟨_, ho2, rfl⟩ noFill_tuple_add seq_tuple_add PySem.F.slot_tuple_add PySem.F.entry_tuple_add (PySem.F.args_tuple_add_2 _ _)
      (tuple_addW2 t b vs.toArray ws.toArray n n2 dd dd2 sl sl2 (by simpa using hv) (by simpa using hw) (by rw [List.size_toArray, List.size_toArray]; exact hsz)) ⟨ho, ho2, ?_⟩
    rw [e]
    exact h2 hw

/-! ### t[a:b], not the whole -/
/-- a slice's bound as a place among n (d where it is left out) -/
def sIx (n d : Nat) : Option Int → Nat
  | none => d
  | some v => if v < 0 then (v + (n : Int)).toNat else min v.toNat n
theorem sIx_none (n d : Nat) : sIx n d none = d := rfl
theorem sIx_nat (n d k : Nat) : sIx n d (some (k : Int)) = min k n := by
  show (if (k : Int) < 0 then ((k : Int) + (n : Int)).toNat else min (k : Int).toNat n) = min k n
  rw [if_neg (by omega), Int.toNat_natCast]
theorem sIx_le (n d : Nat) (hd : d ≤ n) (o : Option Int) : sIx n d o ≤ n := by
  cases o with
  | none => exact hd
  | some v =>
    show (if v < 0 then (v + (n : Int)).toNat else min v.toNat n) ≤ n
    by_cases hv : v < 0
    · rw [if_pos hv]; omega
    · rw [if_neg hv]; exact Nat.min_le_right _ _
theorem clip_eq (v : Int) (n d : Nat) : (if v < 0 then max (v + (n : Int)) 0 else min v (n : Int)) = ((sIx n d (some v) : Nat) : Int) := by
  show (if v < 0 then max (v + (n : Int)) 0 else min v (n : Int)) = (((if v < 0 then (v + (n : Int)).toNat else min v.toNat n) : Nat) : Int)
  by_cases hv : v < 0
  · simp only [if_pos hv]; omega
  · simp only [if_neg hv]; omega
theorem adjust_gen (lo hi : Option Int) (n : Nat) : Builtin.Slice.sliceAdjust lo hi 1 (n : Int) = (((sIx n 0 lo : Nat) : Int), ((sIx n n hi : Nat) : Int)) := by
  have h1 : ¬ ((1 : Int) < 0) := by omega
  unfold Builtin.Slice.sliceAdjust
  simp only [h1, if_false]
  refine Prod.ext ?_ ?_
  · cases lo with
    | none => rfl
    | some v => exact clip_eq v n 0
  · cases hi with
    | none => rfl
    | some v => exact clip_eq v n n
theorem places_gen (i j : Nat) : Builtin.Slice.slicePlaces (i : Int) (j : Int) 1 = j - i := by
  unfold Builtin.Slice.slicePlaces
  have h1 : (1 : Int) > 0 := by omega
  simp only [h1, if_true, Int.ediv_one]
  split <;> omega
theorem slicePart_ {v : Value} {o : Option Int} {Q : Option Int → Shared → Prop} (p : IsPart v o) (h : Q o s) : wpAny (model prog w) A (Builtin.Slice.slicePartIndex v) Q E s := by
  cases p with
  | none => exact slicePart_none h
  | int i t => exact slicePart_int h
theorem sliceApplied_gen {sl : Addr} {vl vu : Value} {lo hi : Option Int} {n : Nat} {Q : Int × Int × Nat → Shared → Prop} (hs : s.heap.IsSliceOf sl vl vu .none) (pl : IsPart vl lo) (pu : IsPart vu hi)
    (h : Q (((sIx n 0 lo : Nat) : Int), 1, sIx n n hi - sIx n 0 lo) s) : wpAny (model prog w) A (Builtin.Slice.sliceApplied (.ref sl) (pure (n : Int))) Q E s := by
  obtain ⟨os, hos, hcs, hds⟩ := id hs
  unfold Builtin.Slice.sliceApplied Builtin.Slice.sliceFields
  refine wpAny_bind (wpAny_bind (wpAny_field hos hds (x := vl) rfl (wpAny_bind (wpAny_field hos hds (x := vu) rfl (wpAny_bind (wpAny_field hos hds (x := .none) rfl (wpAny_pure ?_)))))))
  refine wpAny_bind (slicePart_none ?_)
  show wpAny _ _ (if ((1 : Int) == 0) = true then _ else _) _ _ s
  rw [if_neg (by decide)]
  refine wpAny_bind (slicePart_ pl (wpAny_bind (slicePart_ pu (wpAny_bind (wpAny_pure ?_)))))
  show wpAny _ _ (match Builtin.Slice.sliceAdjust lo hi 1 (n : Int) with | (lo, hi) => pure (lo, (1 : Int), Builtin.Slice.slicePlaces lo hi 1)) _ _ s
  rw [adjust_gen lo hi n]
  show wpAny _ _ (pure (((sIx n 0 lo : Nat) : Int), (1 : Int), Builtin.Slice.slicePlaces ((sIx n 0 lo : Nat) : Int) ((sIx n n hi : Nat) : Int) 1)) _ _ s
  rw [places_gen]
  exact wpAny_pure h
theorem pick_gen (xs : Array Value) (i k : Nat) : ((List.range k).filterMap fun (m : Nat) => xs[((i : Int) + (m : Int) * 1).toNat]?).toArray = ((xs.toList.drop i).take k).toArray := by
  have e : (fun (m : Nat) => xs[((i : Int) + (m : Int) * 1).toNat]?) = fun m => xs[i + m]? := by
    funext m
    have : ((i : Int) + (m : Int) * 1).toNat = i + m := by omega
    rw [this]
  rw [e]
  have := pick_run xs i k
  rw [List.filterMap_map] at this
  have e2 : ((fun x => xs[x]?) ∘ fun x => i + x) = fun m => xs[i + m]? := rfl
  rw [e2] at this
  rw [this]

theorem getItem_tuple_cut {t sl : Addr} {items : Array Value} {vl vu : Value} {lo hi : Option Int} {Q : Value → Shared → Prop} (ht : IsTup s.heap t items) (hs : s.heap.IsSliceOf sl vl vu .none) (pl : IsPart vl lo) (pu : IsPart vu hi)
    (hw : ¬ (sIx items.size 0 lo = 0 ∧ sIx items.size items.size hi = items.size))
    (h : Q (.ref s.heap.objs.size) { s with heap := s.heap.push { cls := .type "tuple", data := .seq ((items.toList.drop (sIx items.size 0 lo)).take (sIx items.size items.size hi - sIx items.size 0 lo)).toArray } })
    (hsz : items.size ≤ sizeLine) : wpAny (model prog w) A (getItem (.ref t) (.ref sl)) Q E s := by
  have htake : sizeOk (.seq ((items.toList.drop (sIx items.size 0 lo)).take (sIx items.size items.size hi - sIx items.size 0 lo)).toArray) := by
    show ((items.toList.drop (sIx items.size 0 lo)).take (sIx items.size items.size hi - sIx items.size 0 lo)).toArray.size ≤ sizeLine
    rw [List.size_toArray, List.length_take, List.length_drop, Array.length_toList]
    omega
  have hj : sIx items.size items.size hi ≤ items.size := sIx_le _ _ (Nat.le_refl _) hi
  obtain ⟨os, hos, hcs, hds⟩ := id hs
  have hTs : s.TypeIs (.ref sl) "slice" := ⟨os, hos, hcs⟩
  unfold getItem
  try with_reducible refine wpAny_holding ?_
  first | refine wpAny_bind (wpAny_pure ?_) | skip
  refine wpAny_bind (wpAny_sequenceKey ht.typeIs (by decide) ?_)
  refine wpAny_bind (wpAny_callSpecial?_slot (name := Str.ofString "__getitem__") ht.typeIs PyProof.Rows.slot_tuple_getitem
    (wpAny_call_entry PyProof.Rows.slot_tuple_getitem ht.typeIs entry_tuple_getitem ?_ (args_tuple_getitem _ _)))
  show wpAny _ _ (Builtin.Tuple.tupleItemsOf (.ref t) >>= _) _ _ s
  refine wpAny_bind (tupleItemsOf_ ht ?_)
  refine wpAny_bind (wpAny_typeOf hTs ?_)
  rw [if_pos (by decide)]
  refine wpAny_bind (sliceApplied_gen hs pl pu ?_)
  have hno : ¬ ((((sIx items.size 0 lo : Nat) : Int) == 0 && (1 : Int) == 1 && (sIx items.size items.size hi - sIx items.size 0 lo) == items.size) = true) := by
    intro q
    rw [Bool.and_eq_true, Bool.and_eq_true] at q
    have q1 : ((sIx items.size 0 lo : Nat) : Int) = 0 := eq_of_beq q.1.1
    have q2 : sIx items.size items.size hi - sIx items.size 0 lo = items.size := eq_of_beq q.2
    exact hw ⟨by omega, by omega⟩
  show wpAny _ _ (if (((sIx items.size 0 lo : Nat) : Int) == 0 && (1 : Int) == 1 && (sIx items.size items.size hi - sIx items.size 0 lo) == items.size) = true then _ else _) _ _ s
  rw [if_neg hno, pick_gen]
  first
    | exact wpAny_bind (m := Builtin.Tuple.tupleExact _) (wpAny_newObj_type (wpAny_pure ⟨_, rfl, wpAny_pure h⟩) htake)
    | exact wpAny_bind (m := Builtin.Tuple.tupleExact _) (wpAny_newObj_type (wpAny_bind (wpAny_pure (wpAny_pure ⟨_, rfl, wpAny_pure h⟩))) htake)
    | exact wpAny_bind (wpAny_bind (m := Builtin.Tuple.tupleExact _) (wpAny_newObj_type (wpAny_pure (wpAny_pure ⟨_, rfl, wpAny_pure h⟩)) htake))
    | exact wpAny_bind (wpAny_bind (m := Builtin.Tuple.tupleExact _) (wpAny_newObj_type (wpAny_pure ⟨_, rfl, wpAny_pure h⟩) htake))
end
end HT

namespace L2
open PySem PySem.Spec PyProof.Rows

/-! ### the parts of a slice -/
abbrev TO := St → Hp → (Option Int → Hp → Prop) → Prop
/-- a slice's part (left out, or an int) -/
def PO (X : Cx) (e : Option Expr) (t : TO) : Prop :=
  ∀ (pins : List (Addr × Obj)) (s : Shared) (σ : St) (H : Hp) (Q : Option Int → Hp → Prop), Inv X pins σ H s → t σ H Q →
    wpAny (model X.prog X.w) X.A (evalPart e X.env) (fun u s' => ∃ o H', Inv X pins σ H' s' ∧ IsPart u o ∧ Q o H') X.xe s
def tNoPart : TO := fun _ H Q => Q none H
def tPart (t : TE) : TO := fun σ H Q => t σ H fun x H1 => ∃ i, x = .int i ∧ Q (some i) H1

theorem intsAre_of {ns : List Int} : ∀ {us : List Value}, Vals (ns.map V.int) us → IntsAre us ns := by
  induction ns with
  | nil => intro us r; rw [List.map_nil] at r; cases r; exact .nil
  | cons n ns ih =>
    intro us r
    rw [List.map_cons] at r
    cases r with
    | cons r1 r2 =>
      obtain ⟨t, e⟩ := r1
      subst e
      exact .cons n t (ih r2)

section
variable {X : Cx} {e : Expr} {te : TE} {lo hi : Option Expr} {tl th : TO} {pos p2 : Pos}

theorem po_none : PO X none tNoPart := by
  intro pins s σ H Q I h
  rw [evalPart_none]
  exact wpAny_pure ⟨none, H, I, .none, h⟩
theorem po_some (h : PE X e te) : PO X (some e) (tPart te) := by
  intro pins s σ H Q I hw
  rw [evalPart_some]
  refine thn (h pins s σ H _ I hw) fun u s1 ⟨x, H1, I1, r1, q1⟩ => ?_
  obtain ⟨i, rfl, q⟩ := q1
  obtain ⟨t, rfl⟩ := r1
  exact ⟨some i, H1, I1, .int i t, q⟩

/-- what a slice of a value is, by values: the slice object stands at sl -/
def SlR (X : Cx) (r : V → Option Int → Option Int → Hp → VK → Prop) : Prop :=
  ∀ (pins : List (Addr × Obj)) (s : Shared) (σ : St) (H : Hp) (x : V) (v vl vu : Value) (lo hi : Option Int) (sl : Addr) (Q : VK), Inv X pins σ H s → RelV x v → s.heap.IsSliceOf sl vl vu .none → IsPart vl lo → IsPart vu hi → r x lo hi H Q →
    ∃ T id, typeLookup (.type T) "__getitem__" = pure (some (.builtin id)) ∧ s.TypeIs v T ∧ wpAny (model X.prog X.w) X.A (getItem v (.ref sl)) (EP X pins σ Q) X.xe s
theorem SlR.or {r r' : V → Option Int → Option Int → Hp → VK → Prop} (h : SlR X r) (h' : SlR X r') : SlR X (fun x lo hi H Q => r x lo hi H Q ∨ r' x lo hi H Q) := by
  intro pins s σ H x v vl vu lo hi sl Q I rx hs pl pu q
  rcases q with q | q
  · exact h pins s σ H x v vl vu lo hi sl Q I rx hs pl pu q
  · exact h' pins s σ H x v vl vu lo hi sl Q I rx hs pl pu q
def tSl (r : V → Option Int → Option Int → Hp → VK → Prop) (te : TE) (tl th : TO) : TE := fun σ H Q => te σ H fun x H1 => tl σ H1 fun l H2 => th σ H2 fun u H3 => r x l u H3 Q
/-- a[lo:hi], any a -/
theorem pe_slice {r : V → Option Int → Option Int → Hp → VK → Prop} (hr : SlR X r) (he : PE X e te) (hl : PO X lo tl) (hu : PO X hi th) : PE X (.Subscript e (.Slice lo hi none p2) pos) (tSl r te tl th) := by
  intro pins s σ H Q I h
  refine Subscript_ (thn (he pins s σ H _ I h) fun v s1 ⟨x, H1, I1, r1, q1⟩ => ?_)
  refine wpAny_Slice (thn (hl pins s1 σ H1 _ I1 q1) fun vl s2 ⟨l, H2, I2, pl, q2⟩ => thn (hu pins s2 σ H2 _ I2 q2) fun vu s3 ⟨u, H3, I3, pu, q3⟩ => ?_)
  rw [evalPart_none]
  refine wpAny_pure ?_
  have I4 : Inv X pins σ H3 { s3 with heap := s3.heap.push { cls := .type "slice", data := .fields #[vl, vu, .none] } } := I3.kept (t' := s3.toks) fun b ob q => Heap.get?_push_of_some _ q
  obtain ⟨T, id, hT, ht, hg⟩ := hr pins { s3 with heap := s3.heap.push { cls := .type "slice", data := .fields #[vl, vu, .none] } } σ H3 x v vl vu l u s3.heap.objs.size Q I4 r1 (Heap.IsSliceOf.new ..) pl pu q3
  show wpAny (model X.prog X.w) X.A (subscriptTail e (.Slice lo hi none p2) v (.ref s3.heap.objs.size)) (EP X pins σ Q) X.xe { s3 with heap := s3.heap.push { cls := .type "slice", data := .fields #[vl, vu, .none] } }
  exact tail_any (ops := [.ref s3.heap.objs.size, v]) ht hT hg (by with_unfolding_all rfl)

/-- the items of xs[lo:hi] -/
def cutV (xs : List V) (lo hi : Option Int) : List V := (xs.drop (HT.sIx xs.length 0 lo)).take (HT.sIx xs.length xs.length hi - HT.sIx xs.length 0 lo)
theorem cutV_length (xs : List V) (lo hi : Option Int) : (cutV xs lo hi).length ≤ xs.length := by
  unfold cutV
  rw [List.length_take, List.length_drop]
  omega
/-- t[lo:hi], not the whole of it (the whole would be t itself) -/
def rSlT (K : PySem.W.Frag) : V → Option Int → Option Int → Hp → VK → Prop := fun x lo hi H Q => ∃ a xs, x = .ref a ∧ SqT K H a xs ∧
  ¬ (HT.sIx xs.length 0 lo = 0 ∧ HT.sIx xs.length xs.length hi = xs.length) ∧ ∀ p, H p = none → Q (.ref p) (upd H p (.tup (cutV xs lo hi)))
theorem sl_tup : SlR X (rSlT X.K) := by
  intro pins s σ H x v vl vu lo hi sl Q I rx hs pl pu h
  obtain ⟨a, xs, rfl, hx, hw, q⟩ := h
  cases rx
  obtain ⟨its, r, ht, hz⟩ := I.tuple hx
  have hlen : its.toArray.size = xs.length := by rw [List.size_toArray]; exact r.length.symm
  refine ⟨"tuple", _, PyProof.Rows.slot_tuple_getitem.lookup, ht.typeIs, ?_⟩
  refine HT.getItem_tuple_cut ht hs pl pu (by rw [hlen]; exact hw) ?_ (by rw [hlen]; exact hz)
  rw [hlen]
  refine ⟨.ref s.heap.objs.size, _, I.laid (t' := s.toks) (o := .tup (cutV xs lo hi)) (fun b ob q => Heap.get?_push_of_some _ q) (Nat.le_refl _) ?_, rfl, q _ (I.hok.fresh (Nat.le_refl _))⟩
  exact ⟨Nat.le_trans (cutV_length xs lo hi) hz, _, (r.drop (HT.sIx xs.length 0 lo)).take (HT.sIx xs.length xs.length hi - HT.sIx xs.length 0 lo), IsTup.new _ _⟩

/-! ### t < u, t + u -/
def rLtT (K : PySem.W.Frag) : R2 := fun x y H Q => ∃ a b ns ms, x = .ref a ∧ y = .ref b ∧ SqT K H a (ns.map V.int) ∧ SqT K H b (ms.map V.int) ∧ Q (.bl (HT.lexLt ns ms)) H
theorem op_ltT (hu : X.A.units < cLine) : OpR X (compareOp .Lt) (rLtT X.K) := by
  intro pins s σ H x y v u Q I rx ry h
  obtain ⟨a, b, ns, ms, rfl, rfl, ha, hb, q⟩ := h
  cases rx
  cases ry
  obtain ⟨its, r1, p1, _⟩ := I.tuple ha
  obtain ⟨its2, r2, p2, _⟩ := I.tuple hb
  have i1 : IntsAre its.toArray.toList ns := intsAre_of r1
  have i2 : IntsAre its2.toArray.toList ms := intsAre_of r2
  exact HT.lt_tupInts p1 p2 i1 i2 hu ⟨.bl (HT.lexLt ns ms), H, I, rfl, q⟩
/-- t + u, t not empty: u empty gives t itself -/
def rCatT (K : PySem.W.Frag) : R2 := fun x y H Q => ∃ a b xs ys, x = .ref a ∧ y = .ref b ∧ SqT K H a xs ∧ SqT K H b ys ∧ xs ≠ [] ∧ xs.length + ys.length ≤ sizeLine ∧
  (ys = [] → Q (.ref a) H) ∧ (ys ≠ [] → ∀ p, H p = none → Q (.ref p) (upd H p (.tup (xs ++ ys))))
theorem Vals.nil_iff {xs : List V} {us : List Value} (r : Vals xs us) : us = [] ↔ xs = [] := by
  cases r with
  | nil => simp
  | cons _ _ => simp
theorem op_catT : OpR X (binaryOp .Add) (rCatT X.K) := by
  intro pins s σ H x y v u Q I rx ry h
  obtain ⟨a, b, xs, ys, rfl, rfl, ha, hb, hx, hz, q1, q2⟩ := h
  cases rx
  cases ry
  obtain ⟨its, r1, p1, _⟩ := I.tuple ha
  obtain ⟨its2, r2, p2, _⟩ := I.tuple hb
  refine HT.cat_tup p1 p2 (fun z => hx (r1.nil_iff.mp z)) (fun z => ⟨.ref a, H, I, rfl, q1 (r2.nil_iff.mp z)⟩) (fun z => ?_) (by rw [← r1.length, ← r2.length]; exact hz)
  refine ⟨.ref s.heap.objs.size, _, I.laid (t' := s.toks) (o := .tup (xs ++ ys)) (fun b ob q => Heap.get?_push_of_some _ q) (Nat.le_refl _) ?_, rfl, q2 (fun w => z (r2.nil_iff.mpr w)) _ (I.hok.fresh (Nat.le_refl _))⟩
  exact ⟨by rw [List.length_append]; exact hz, _, r1.append r2, IsTup.new _ _⟩
/-- tuple(t) -/
theorem call_tupleT : CallR X (.type "tuple") (fun xs H Q => ∃ a ys, xs = [.ref a] ∧ SqT X.K H a ys ∧ Q (.ref a) H) := by
  intro pins s σ H xs us Q I r h
  obtain ⟨a, ys, rfl, ha, q⟩ := h
  obtain ⟨u, rfl, ru⟩ := vals1 r
  cases ru
  obtain ⟨its, _, p1, _⟩ := I.tuple ha
  exact call_tuple_same (items := its.toArray) p1 ⟨.ref a, H, I, rfl, q⟩
end
end L2

namespace L2
open PySem PySem.Spec PyProof.Rows

/-! ### places -/
/-- the place that an index of any sign means -/
def ixN (n : Nat) (i : Int) : Option Nat := if 0 ≤ i then (if i < n then some i.toNat else none) else if -(n : Int) ≤ i then some (i + n).toNat else none
def atI {α : Type} (xs : List α) (i : Int) : Option α := (ixN xs.length i).bind fun j => xs[j]?
theorem ixN_seq {n : Nat} {i : Int} {j : Nat} (h : ixN n i = some j) : seqIndex? i n = some j ∧ j < n ∧ -(n : Int) ≤ i ∧ i < n := by
  unfold ixN at h
  by_cases h0 : 0 ≤ i
  · rw [if_pos h0] at h
    by_cases h1 : i < n
    · rw [if_pos h1] at h
      have e : i.toNat = j := Option.some.inj h
      exact ⟨by rw [seqIndex_of h0 h1, e], by omega, by omega, h1⟩
    · rw [if_neg h1] at h; cases h
  · rw [if_neg h0] at h
    by_cases h1 : -(n : Int) ≤ i
    · rw [if_pos h1] at h
      have e : (i + n).toNat = j := Option.some.inj h
      exact ⟨by rw [seqIndex_neg (by omega) h1, e], by omega, h1, by omega⟩
    · rw [if_neg h1] at h; cases h
theorem atI_get {α : Type} {xs : List α} {i : Int} {v : α} (h : atI xs i = some v) : ∃ j, seqIndex? i xs.length = some j ∧ xs[j]? = some v ∧ j < xs.length ∧ -(xs.length : Int) ≤ i ∧ i < xs.length := by
  unfold atI at h
  cases e : ixN xs.length i with
  | none => rw [e] at h; cases h
  | some j =>
    rw [e] at h
    obtain ⟨h1, h2, h3, h4⟩ := ixN_seq e
    exact ⟨j, h1, h, h2, h3, h4⟩
theorem atI_nat {α : Type} {xs : List α} {j : Nat} {v : α} (h : xs[j]? = some v) : atI xs (j : Int) = some v := by
  have hj : j < xs.length := (List.getElem?_eq_some_iff.mp h).1
  have e : ixN xs.length (j : Int) = some j := by
    unfold ixN
    rw [if_pos (by omega), if_pos (by omega)]; simp
  unfold atI; rw [e]; exact h
theorem atI_last {α : Type} (xs : List α) (v : α) : atI (xs ++ [v]) (-1) = some v := by
  have hl : (xs ++ [v]).length = xs.length + 1 := by simp
  have e : ixN (xs ++ [v]).length (-1) = some xs.length := by
    unfold ixN
    rw [hl, if_neg (by decide), if_pos (by omega)]
    congr 1
    omega
  unfold atI
  rw [e]
  show (xs ++ [v])[xs.length]? = some v
  simp

/-! ### what may be subscripted -/
/-- what stands as an index of a plain subscript -/
def PlainIx (b : Expr) : Prop := ∀ o i, subscripted b false o i = operate [o, i] (getItem o i)
/-- a subscript by values -/
def IxR (X : Cx) (r : R2) : Prop :=
  ∀ (value slice : Expr) (pins : List (Addr × Obj)) (s : Shared) (σ : St) (H : Hp) (x y : V) (v u : Value) (Q : VK), Inv X pins σ H s → RelV x v → RelV y u → r x y H Q →
    subscripted slice false v u = operate [v, u] (getItem v u) → wpAny (model X.prog X.w) X.A (subscriptTail value slice v u) (EP X pins σ Q) X.xe s
/-- a call of a builtin's method by values: the receiver, the arguments -/
def MtR (X : Cx) (id : String) (r : V → List V → Hp → VK → Prop) : Prop :=
  ∀ (pins : List (Addr × Obj)) (s : Shared) (σ : St) (H : Hp) (x : V) (xs : List V) (v : Value) (us : List Value) (Q : VK), Inv X pins σ H s → RelV x v → Vals xs us → r x xs H Q →
    wpAny (model X.prog X.w) X.A (call (.builtin id) (v :: us)) (EP X pins σ Q) X.xe s
section
variable {X : Cx} {a b : Expr} {ta tb : TE} {pos : Pos}
theorem IxR.or {r r' : R2} (h : IxR X r) (h' : IxR X r') : IxR X (fun x y H Q => r x y H Q ∨ r' x y H Q) := by
  intro value slice pins s σ H x y v u Q I rx ry q hs
  rcases q with q | q
  · exact h value slice pins s σ H x y v u Q I rx ry q hs
  · exact h' value slice pins s σ H x y v u Q I rx ry q hs
theorem MtR.or {id : String} {r r' : V → List V → Hp → VK → Prop} (h : MtR X id r) (h' : MtR X id r') : MtR X id (fun x xs H Q => r x xs H Q ∨ r' x xs H Q) := by
  intro pins s σ H x xs v us Q I rx rs q
  rcases q with q | q
  · exact h pins s σ H x xs v us Q I rx rs q
  · exact h' pins s σ H x xs v us Q I rx rs q
/-- a[b] -/
theorem pe_ix {r : R2} (hr : IxR X r) (ha : PE X a ta) (hb : PE X b tb) (hs : PlainIx b) : PE X (.Subscript a b pos) (tOp r ta tb) := by
  intro pins s σ H Q I h
  exact Subscript_ (binT ha hb I h fun v u s2 x y H2 I2 rx ry q => hr a b pins s2 σ H2 x y v u Q I2 rx ry q (hs _ _))

def rIxL (K : PySem.W.Frag) : R2 := fun x y H Q => ∃ p xs i v, x = .ref p ∧ y = .int i ∧ SqL K H p xs ∧ atI xs i = some v ∧ Q v H
def rIxT (K : PySem.W.Frag) : R2 := fun x y H Q => ∃ p xs i v, x = .ref p ∧ y = .int i ∧ SqT K H p xs ∧ atI xs i = some v ∧ Q v H
def rIxS : R2 := fun x y H Q => ∃ z i c, x = .str z ∧ y = .int i ∧ z.length ≤ sizeLine ∧ atI z.cps.toList i = some c ∧ Q (.str ⟨#[c]⟩) H
theorem ix_list : IxR X (rIxL X.K) := by
  intro value slice pins s σ H x y v u Q I rx ry h hs
  obtain ⟨p, xs, i, z, rfl, rfl, hq, he, q⟩ := h
  cases rx
  obtain ⟨t, rfl⟩ := ry
  obtain ⟨its, r, pl, hz⟩ := I.list hq
  obtain ⟨j, h1, h2, h3, h4, h5⟩ := atI_get he
  obtain ⟨w, ew, rw'⟩ := r.get h2
  have hl := r.length
  have hn := line63
  have fin : EP X pins σ Q w s := ⟨z, H, I, rw', q⟩
  by_cases h0 : 0 ≤ i
  · have hj : i.toNat = j := by
      rw [seqIndex_of h0 h5] at h1
      exact Option.some.inj h1
    exact item_listR pl.isList h0 (by omega) (by rw [hj]; simpa using ew) fin hs
  · have hj : (i + (its.toArray.size : Int)).toNat = j := by
      rw [seqIndex_neg (by omega) h4] at h1
      rw [List.size_toArray, ← hl]
      exact Option.some.inj h1
    exact subscriptTail_builtinR (x := w) pl.isList.typeIs slot_list_getitem.lookup
      (wpAny_getItem_list_neg (Q := fun r s' => r = w ∧ EP X pins σ Q r s') pl.isList (by omega) (by rw [List.size_toArray] <;> omega) (by omega) (by rw [hj]; simpa using ew) ⟨rfl, fin⟩) hs
theorem ix_tup : IxR X (rIxT X.K) := by
  intro value slice pins s σ H x y v u Q I rx ry h hs
  obtain ⟨p, xs, i, z, rfl, rfl, hq, he, q⟩ := h
  cases rx
  obtain ⟨t, rfl⟩ := ry
  obtain ⟨its, r, pl, hz⟩ := I.tuple hq
  obtain ⟨j, h1, h2, h3, h4, h5⟩ := atI_get he
  obtain ⟨w, ew, rw'⟩ := r.get h2
  have hl := r.length
  have hn := line63
  have fin : EP X pins σ Q w s := ⟨z, H, I, rw', q⟩
  exact subscriptTail_builtinR (x := w) pl.typeIs slot_tuple_getitem.lookup
    (getItem_tuple (j := j) (Q := fun r s' => r = w ∧ EP X pins σ Q r s') pl (by omega) (by omega) (by rw [List.size_toArray, ← hl]; exact h1) (by simpa using ew) ⟨rfl, fin⟩) hs
theorem ix_str : IxR X rIxS := by
  intro value slice pins s σ H x y v u Q I rx ry h hs
  obtain ⟨z, i, c, rfl, rfl, hz, he, q⟩ := h
  obtain ⟨t, rfl⟩ := rx
  obtain ⟨t', rfl⟩ := ry
  obtain ⟨j, h1, h2, h3, h4, h5⟩ := atI_get he
  have hl : z.cps.toList.length = z.length := by simp [Str.length]
  rw [hl] at h1 h4 h5
  have hn := line63
  exact tail_any (typeIs_str s z t) slot_str_getitem.lookup (getItem_str (c := c) (by
    have e1 : decide (i < -(2 ^ 63 : Int)) = false := decide_eq_false (by omega)
    have e2 : decide (i ≥ 2 ^ 63) = false := decide_eq_false (by omega)
    rw [e1, e2, Bool.or_false]) (by rw [h1]; simpa using h2) ⟨.str ⟨#[c]⟩, H, I.tok _, ⟨_, rfl⟩, q⟩) hs
/-- list, tuple or str -/
def rIx (K : PySem.W.Frag) : R2 := fun x y H Q => rIxL K x y H Q ∨ rIxT K x y H Q ∨ rIxS x y H Q
theorem ix_seq : IxR X (rIx X.K) := ix_list.or (ix_tup.or ix_str)

/-! ### xs[i] = v, any sign -/
/-- the list's object behind a store -/
theorem mapSeq_set (its : List Value) (n j : Nat) (u : Value) : Obj.mapSeq (·.setIfInBounds j u) { cls := .type "list", data := .seq its.toArray n } = { cls := .type "list", data := .seq (its.set j u).toArray n } := by
  simp [Obj.mapSeq]
theorem Inv.lst {pins : List (Addr × Obj)} {σ : St} {H : Hp} {s : Shared} {p : Addr} {xs : List V} (I : Inv X pins σ H s) (h : H p = some (.lst xs)) :
    ∃ (its : List Value) (n : Nat), Vals xs its ∧ s.heap.get? p = some { cls := .type "list", data := .seq its.toArray n } ∧ xs.length ≤ sizeLine := by
  obtain ⟨z, its, n, r, e⟩ := I.hok p _ h
  exact ⟨its, n, r, e, z⟩
/-- the list at p is written by an update of its object -/
theorem Inv.lstUpd {pins : List (Addr × Obj)} {σ : St} {H : Hp} {s : Shared} {p : Addr} {xs ys : List V} {its its' : List Value} {n n' : Nat} {f : Obj → Obj} (I : Inv X pins σ H s) (h : H p = some (.lst xs))
    (ho : s.heap.get? p = some { cls := .type "list", data := .seq its.toArray n }) (hf : f { cls := .type "list", data := .seq its.toArray n } = { cls := .type "list", data := .seq its'.toArray n' }) (r : Vals ys its') (hz : ys.length ≤ sizeLine) (t : Nat) :
    Inv X pins σ (upd H p (.lst ys)) { s with heap := s.heap.update p f, toks := t } := by
  have e : (s.heap.update p f).get? p = some { cls := .type "list", data := .seq its'.toArray n' } := by
    rw [Heap.get?_update_self f ho (by rw [hf] <;> rfl), hf]
  refine I.write (x := p) (e := p) (by rw [h]; trivial) (.inl rfl) (fun b u hb q => (Heap.get?_update_other _ _ (Ne.symm hb)).trans q) ⟨_, e⟩ ?_
  exact ⟨hz, its', n', r, e⟩
def rSetL : V → V → V → Hp → (Hp → Prop) → Prop := fun o i v H Q => ∃ p xs k j, o = .ref p ∧ i = .int k ∧ H p = some (.lst xs) ∧ ixN xs.length k = some j ∧ Q (upd H p (.lst (xs.set j v)))
theorem set_list : PSet X rSetL := by
  intro pins s σ H o i v ov iv u Q I ro ri rv h
  obtain ⟨p, xs, k, j, rfl, rfl, hp, hj, q⟩ := h
  cases ro
  obtain ⟨t, rfl⟩ := ri
  obtain ⟨its, n, r, ho, hz⟩ := I.lst hp
  obtain ⟨h1, h2, h3, h4⟩ := ixN_seq hj
  have hl := r.length
  have hn := line63
  have I' : Inv X pins σ (upd H p (.lst (xs.set j v))) { s with heap := s.heap.update p (Obj.mapSeq (·.setIfInBounds j u)) } :=
    I.lstUpd hp ho (mapSeq_set its n j u) (r.set rv j) (by rw [List.length_set]; exact hz) s.toks
  by_cases h0 : 0 ≤ k
  · have hk : k.toNat = j := by
      rw [seqIndex_of h0 h4] at h1
      exact Option.some.inj h1
    exact PySem.W.ki_setAt ho h0 (by omega) (by rw [List.size_toArray, ← hl]; exact h4) (by rw [hk]; exact ⟨_, I', q⟩)
  · have hk : (k + (its.toArray.size : Int)).toNat = j := by
      rw [seqIndex_neg (by omega) h3] at h1
      rw [List.size_toArray, ← hl]
      exact Option.some.inj h1
    exact PySem.W.ki_setBack ho (by omega) (by rw [List.size_toArray, ← hl]; exact h3) (by omega) (by rw [hk]; exact ⟨_, I', q⟩)

/-! ### slices -/
theorem slice_bounds (lo hi : Option Int) (n : Nat) : (sliceBounds lo hi none n).1 = ((HT.sIx n 0 lo : Nat) : Int) ∧ (sliceBounds lo hi none n).2.1 = ((HT.sIx n n hi : Nat) : Int) ∧ (sliceBounds lo hi none n).2.2 = 1 := by
  refine ⟨?_, ?_, rfl⟩
  · cases lo with
    | none => simp [sliceBounds, HT.sIx]
    | some i =>
      simp only [sliceBounds, HT.sIx, Option.getD_none, show (1 : Int) > 0 by decide, if_true]
      by_cases h : i < 0
      · simp only [h, if_true] <;> omega
      · simp only [h, if_false] <;> omega
  · cases hi with
    | none => simp [sliceBounds, HT.sIx]
    | some i =>
      simp only [sliceBounds, HT.sIx, Option.getD_none, show (1 : Int) > 0 by decide, if_true]
      by_cases h : i < 0
      · simp only [h, if_true] <;> omega
      · simp only [h, if_false] <;> omega
theorem slicePick_cut (its : List Value) (lo hi : Option Int) : slicePick its.toArray lo hi none = ((its.drop (HT.sIx its.length 0 lo)).take (HT.sIx its.length its.length hi - HT.sIx its.length 0 lo)).toArray := by
  obtain ⟨h1, h2, h3⟩ := slice_bounds lo hi its.toArray.size
  unfold slicePick
  rw [h1, h2, h3]
  simp only [sliceRange_one, pick_run, List.size_toArray] <;> rfl
/-- xs[lo:hi] of a list: a new list -/
def rSlL (K : PySem.W.Frag) : V → Option Int → Option Int → Hp → VK → Prop := fun x lo hi H Q => ∃ a xs, x = .ref a ∧ SqL K H a xs ∧ ∀ p, H p = none → Q (.ref p) (upd H p (.lst (cutV xs lo hi)))
theorem sl_list : SlR X (rSlL X.K) := by
  intro pins s σ H x v vl vu lo hi sl Q I rx hs pl pu h
  obtain ⟨a, xs, rfl, hx, q⟩ := h
  cases rx
  obtain ⟨its, r, ht, hz⟩ := I.list hx
  have hlen := r.length
  refine ⟨"list", _, slot_list_getitem.lookup, ht.isList.typeIs, ?_⟩
  refine wpAny_getItem_list_slice ht.isList hs pl pu .none (by simp) ?_ (by rw [List.size_toArray] <;> omega)
  rw [slicePick_cut, ← hlen]
  refine ⟨.ref s.heap.objs.size, _, I.laid (t' := s.toks) (o := .lst (cutV xs lo hi)) (fun b ob q => Heap.get?_push_of_some _ q) (Nat.le_refl _) ?_, rfl, q _ (I.hok.fresh (Nat.le_refl _))⟩
  exact ⟨Nat.le_trans (cutV_length xs lo hi) hz, _, 0, (r.drop (HT.sIx xs.length 0 lo)).take (HT.sIx xs.length xs.length hi - HT.sIx xs.length 0 lo), Heap.get?_push_size _ rfl⟩

/-! ### in, not in: flat items -/
def flatV : V → Bool
  | .non => true
  | .bl _ => true
  | .int _ => true
  | .str _ => true
  | _ => false
/-- == of flat values -/
def eqV : V → V → Bool
  | .non, .non => true
  | .bl a, .bl b => a == b
  | .bl a, .int b => (if a then 1 else 0) == b
  | .int a, .bl b => a == (if b then 1 else 0)
  | .int a, .int b => a == b
  | .str a, .str b => a == b
  | _, _ => false
theorem eqAt_V {A : Around} {s : Shared} {y x : V} {u v : Value} (ry : RelV y u) (rx : RelV x v) (fy : flatV y = true) (fx : flatV x = true) : SeqAt.EqAt A s u v (eqV y x) := by
  cases y with
  | non =>
    cases ry
    cases x with
    | non => cases rx; exact SeqAt.EqAt.same _
    | bl b => cases rx; exact SeqAt.EqAt.none_bool b
    | int b => obtain ⟨t, rfl⟩ := rx; exact SeqAt.EqAt.none_int b t
    | str b => obtain ⟨t, rfl⟩ := rx; exact SeqAt.EqAt.none_str b t
    | _ => exact absurd (show false = true from fx) Bool.false_ne_true
  | bl a =>
    cases ry
    cases x with
    | non => cases rx; exact SeqAt.EqAt.bool_none a
    | bl b => cases rx; exact SeqAt.EqAt.bool_bool a b
    | int b => obtain ⟨t, rfl⟩ := rx; exact SeqAt.EqAt.bool_int a b t
    | str b => obtain ⟨t, rfl⟩ := rx; exact SeqAt.EqAt.bool_str a b t
    | _ => exact absurd (show false = true from fx) Bool.false_ne_true
  | int a =>
    obtain ⟨t', rfl⟩ := ry
    cases x with
    | non => cases rx; exact SeqAt.EqAt.int_none a t'
    | bl b => cases rx; exact SeqAt.EqAt.int_bool a t' b
    | int b => obtain ⟨t, rfl⟩ := rx; exact SeqAt.EqAt.int_int a t' b t
    | str b => obtain ⟨t, rfl⟩ := rx; exact SeqAt.EqAt.int_str a t' b t
    | _ => exact absurd (show false = true from fx) Bool.false_ne_true
  | str a =>
    obtain ⟨t', rfl⟩ := ry
    cases x with
    | non => cases rx; exact SeqAt.EqAt.str_none a t'
    | bl b => cases rx; exact SeqAt.EqAt.str_bool a t' b
    | int b => obtain ⟨t, rfl⟩ := rx; exact SeqAt.EqAt.str_int a t' b t
    | str b => obtain ⟨t, rfl⟩ := rx; exact SeqAt.EqAt.str_str a t' b t
    | _ => exact absurd (show false = true from fx) Bool.false_ne_true
  | _ => exact absurd (show false = true from fy) Bool.false_ne_true
/-- the items' answers, read off the values (a value's own answer does not lean on its token) -/
def eqU (x : V) (u : Value) : Bool := match u with
  | .none => eqV .non x
  | .bool b => eqV (.bl b) x
  | .int i _ => eqV (.int i) x
  | .str z _ => eqV (.str z) x
  | _ => false
theorem eqU_of {x y : V} {u : Value} (r : RelV y u) (f : flatV y = true) : eqU x u = eqV y x := by
  cases y with
  | non => cases r; rfl
  | bl b => cases r; rfl
  | int i => obtain ⟨t, rfl⟩ := r; rfl
  | str z => obtain ⟨t, rfl⟩ := r; rfl
  | _ => exact absurd (show false = true from f) Bool.false_ne_true
theorem any_eqU {x : V} : ∀ {xs : List V} {us : List Value}, Vals xs us → xs.all flatV = true → us.any (eqU x) = xs.any fun y => eqV y x
  | _, _, .nil, _ => rfl
  | y :: xs, u :: us, .cons r t, f => by
    rw [List.all_cons, Bool.and_eq_true] at f
    rw [List.any_cons, List.any_cons, eqU_of r f.1, any_eqU t f.2]
theorem mem_eqAt {A : Around} {s : Shared} {x : V} {v : Value} (rx : RelV x v) (fx : flatV x = true) : ∀ {xs : List V} {us : List Value}, Vals xs us → xs.all flatV = true → ∀ u ∈ us, SeqAt.EqAt A s u v (eqU x u)
  | _, _, .nil, _ => fun u hu => by cases hu
  | y :: xs, u :: us, .cons r t, f => fun u' hu => by
    rw [List.all_cons, Bool.and_eq_true] at f
    rcases List.mem_cons.mp hu with rfl | hu
    · rw [eqU_of r f.1]; exact eqAt_V r rx f.1 fx
    · exact mem_eqAt rx fx t f.2 u' hu
def inV (x : V) (xs : List V) : Bool := xs.any fun y => eqV y x
/-- x in a list or tuple of flat items -/
def rIn (K : PySem.W.Frag) (neg : Bool) : R2 := fun x y H Q => ∃ p xs, y = .ref p ∧ (SqL K H p xs ∨ SqT K H p xs) ∧ flatV x = true ∧ xs.all flatV = true ∧ Q (.bl (if neg then !inV x xs else inV x xs)) H
theorem op_in_seq : OpR X (compareOp .In) (rIn X.K false) := by
  intro pins s σ H x y v u Q I rx ry h
  obtain ⟨p, xs, rfl, hq, fx, fs, q⟩ := h
  cases ry
  rcases hq with hq | hq
  · obtain ⟨its, r, pl, hz⟩ := I.list hq
    refine SeqAt.in_listAt (eqU x) pl.isList (fun w hw => mem_eqAt rx fx r fs w (by simpa using hw)) ⟨.bl _, H, I, rfl, ?_⟩
    rw [show its.toArray.any (eqU x) = its.any (eqU x) by simp, any_eqU r fs]
    exact q
  · obtain ⟨its, r, pl, hz⟩ := I.tuple hq
    refine SeqAt.in_tupleAt (eqU x) pl (fun w hw => mem_eqAt rx fx r fs w (by simpa using hw)) ⟨.bl _, H, I, rfl, ?_⟩
    rw [show its.toArray.any (eqU x) = its.any (eqU x) by simp, any_eqU r fs]
    exact q
theorem op_notIn_seq : OpR X (compareOp .NotIn) (rIn X.K true) := by
  intro pins s σ H x y v u Q I rx ry h
  obtain ⟨p, xs, rfl, hq, fx, fs, q⟩ := h
  cases ry
  rcases hq with hq | hq
  · obtain ⟨its, r, pl, hz⟩ := I.list hq
    refine SeqAt.notIn_listAt (eqU x) pl.isList (fun w hw => mem_eqAt rx fx r fs w (by simpa using hw)) ⟨.bl _, H, I, rfl, ?_⟩
    rw [show its.toArray.any (eqU x) = its.any (eqU x) by simp, any_eqU r fs]
    exact q
  · obtain ⟨its, r, pl, hz⟩ := I.tuple hq
    refine SeqAt.notIn_tupleAt (eqU x) pl (fun w hw => mem_eqAt rx fx r fs w (by simpa using hw)) ⟨.bl _, H, I, rfl, ?_⟩
    rw [show its.toArray.any (eqU x) = its.any (eqU x) by simp, any_eqU r fs]
    exact q
theorem op_notIn_str : OpR X (compareOp .NotIn) (fun x y H Q => ∃ i j, x = .str i ∧ y = .str j ∧ Q (.bl (!(!(Builtin.Str.occurrences j i 0 j.length 1).isEmpty))) H) := by
  intro pins s σ H x y v u Q I rx ry h
  obtain ⟨i, j, rfl, rfl, q⟩ := h
  obtain ⟨t, rfl⟩ := rx
  obtain ⟨t', rfl⟩ := ry
  exact notIn_str ⟨.bl _, H, I, rfl, q⟩

/-! ### len, list(x), tuple(x) of any list or tuple that is read -/
theorem call_len_seq : CallR X (.builtin "len") (fun xs H Q => ∃ p ys, xs = [.ref p] ∧ (SqL X.K H p ys ∨ SqT X.K H p ys) ∧ Q (.int ys.length) H) := by
  intro pins s σ H xs us Q I r h
  obtain ⟨p, ys, rfl, hq, q⟩ := h
  obtain ⟨u, rfl, rx⟩ := vals1 r
  cases rx
  have hn := line63
  rcases hq with hq | hq
  · obtain ⟨its, r', pl, hz⟩ := I.list hq
    have hlen := r'.length
    exact Calls.call_len_list pl.isList (by simp only [List.size_toArray] <;> omega) ⟨.int ys.length, H, I.tok _, ⟨s.toks + 1, by rw [List.size_toArray, hlen]⟩, q⟩
  · obtain ⟨its, r', pl, hz⟩ := I.tuple hq
    have hlen := r'.length
    exact len_tuple pl (by simp only [List.size_toArray] <;> omega) ⟨.int ys.length, H, I.tok _, ⟨s.toks + 1, by rw [List.size_toArray, hlen]⟩, q⟩
theorem call_len_str : CallR X (.builtin "len") (fun xs H Q => ∃ z, xs = [.str z] ∧ z.length ≤ sizeLine ∧ Q (.int z.length) H) := by
  intro pins s σ H xs us Q I r h
  obtain ⟨z, rfl, hz, q⟩ := h
  obtain ⟨u, rfl, t, rfl⟩ := vals1 r
  have hn := line63
  exact len_str (by omega) ⟨.int z.length, H, I.tok _, ⟨_, rfl⟩, q⟩
theorem CallR.or {f : Value} {r r' : List V → Hp → VK → Prop} (h : CallR X f r) (h' : CallR X f r') : CallR X f (fun xs H Q => r xs H Q ∨ r' xs H Q) := by
  intro pins s σ H xs us Q I rs q
  rcases q with q | q
  · exact h pins s σ H xs us Q I rs q
  · exact h' pins s σ H xs us Q I rs q
theorem call_list_of : CallR X (.type "list") (fun xs H Q => ∃ p ys, xs = [.ref p] ∧ (SqL X.K H p ys ∨ SqT X.K H p ys) ∧ ∀ l, H l = none → Q (.ref l) (upd H l (.lst ys))) := by
  intro pins s σ H xs us Q I r h
  obtain ⟨p, ys, rfl, hq, q⟩ := h
  obtain ⟨u, rfl, rx⟩ := vals1 r
  cases rx
  have fin : ∀ (its : List Value), Vals ys its → ys.length ≤ sizeLine → ∀ (h' : Heap) (c' : Nat), (∀ b o', s.heap.get? b = some o' → h'.get? b = some o') →
      h'.get? s.heap.objs.size = some { cls := .type "list", dict := none, data := .seq its.toArray c', slots := #[] } → EP X pins σ Q (.ref s.heap.objs.size) { s with heap := h' } := fun its r' hz h' c' kp e =>
    ⟨.ref s.heap.objs.size, _, I.laid (t' := s.toks) kp (Nat.le_refl _) (show ObjOk X.prog X.w _ h' _ (.lst ys) from ⟨hz, its, c', r', e⟩), rfl, q _ (I.hok.fresh (Nat.le_refl _))⟩
  rcases hq with hq | hq
  · obtain ⟨its, r', pl, hz⟩ := I.list hq
    have hlen := r'.length
    obtain ⟨o, ho, hc, n, hd⟩ := pl.isList
    exact call_list_seq p (.inl rfl) ho hc hd (fun h' c' kp e => fin its r' hz h' c' kp e) (by simp only [List.size_toArray] <;> omega)
  · obtain ⟨its, r', pl, hz⟩ := I.tuple hq
    have hlen := r'.length
    obtain ⟨o, ho, hc, n, hd⟩ := pl
    exact call_list_seq p (.inr rfl) ho hc hd (fun h' c' kp e => fin its r' hz h' c' kp e) (by simp only [List.size_toArray] <;> omega)
theorem call_tuple_of : CallR X (.type "tuple") (fun xs H Q => ∃ p ys, xs = [.ref p] ∧ ((SqL X.K H p ys ∧ ∀ l, H l = none → Q (.ref l) (upd H l (.tup ys))) ∨ (SqT X.K H p ys ∧ Q (.ref p) H))) := by
  intro pins s σ H xs us Q I r h
  obtain ⟨p, ys, rfl, h⟩ := h
  obtain ⟨u, rfl, rx⟩ := vals1 r
  cases rx
  rcases h with ⟨hq, q⟩ | ⟨hq, q⟩
  · obtain ⟨its, r', pl, hz⟩ := I.list hq
    have hlen := r'.length
    refine call_tuple_list pl.isList (fun h' kp => ?_) (by simp only [List.size_toArray] <;> omega)
    have I1 : Inv X pins σ H { s with heap := h' } := I.kept (t' := s.toks) kp
    have I2 : Inv X pins σ (upd H h'.objs.size (.tup ys)) { s with heap := h'.push { cls := .type "tuple", data := .seq its.toArray } } :=
      I1.laid (t' := s.toks) (fun b o e => Heap.get?_push_of_some _ e) (Nat.le_refl _) (show ObjOk X.prog X.w _ _ _ (.tup ys) from ⟨hz, its, r', IsTup.new _ _⟩)
    exact ⟨.ref h'.objs.size, _, I2, rfl, q _ (I1.hok.fresh (Nat.le_refl _))⟩
  · obtain ⟨its, r', pl, hz⟩ := I.tuple hq
    exact call_tuple_same pl ⟨.ref p, H, I, rfl, q⟩

/-! ### the call of a builtin's method: o.m(..) -/
/-- the value is of that builtin type -/
def tyV (K : PySem.W.Frag) (T : String) (x : V) (H : Hp) : Prop := match x with
  | .str _ => T = "str"
  | .int _ => T = "int"
  | .ref p => (T = "list" ∧ ∃ xs, SqL K H p xs) ∨ (T = "tuple" ∧ ∃ o, K.lookup p = some o ∧ o.cls = .type "tuple" ∧ o.dict = none) ∨
      (T = "dict" ∧ ((∃ kvs, H p = some (.dK kvs)) ∨ ∃ kvs, H p = some (.dT kvs))) ∨ (T = "set" ∧ ∃ S n, H p = some (.set S n))
  | _ => False
theorem tyV_is {pins : List (Addr × Obj)} {σ : St} {H : Hp} {s : Shared} {T : String} {x : V} {v : Value} (I : Inv X pins σ H s) (r : RelV x v) (ty : tyV X.K T x H) :
    s.TypeIs v T ∧ ∀ a, v = .ref a → ∃ ob, s.heap.get? a = some ob ∧ ob.dict = none := by
  cases x with
  | str z =>
    obtain ⟨t, rfl⟩ := r
    cases (show T = "str" from ty)
    exact ⟨typeIs_str s z t, fun _ e => nomatch e⟩
  | int i =>
    obtain ⟨t, rfl⟩ := r
    cases (show T = "int" from ty)
    exact ⟨typeIs_int s i t, fun _ e => nomatch e⟩
  | ref p =>
    cases r
    rcases ty with ⟨rfl, xs, hq⟩ | ⟨rfl, o, hk, hc, hd⟩ | ⟨rfl, hk⟩ | ⟨rfl, S, n, hk⟩
    · obtain ⟨its, _, pl, _⟩ := I.list hq
      refine ⟨pl.isList.typeIs, fun a e => ?_⟩
      cases e
      obtain ⟨o, n, e, c, hd, _⟩ := pl
      exact ⟨o, e, hd⟩
    · refine ⟨⟨o, I.kIn p o hk, hc⟩, fun a e => ?_⟩
      cases e
      exact ⟨o, I.kIn _ o hk, hd⟩
    · have z : ∃ o, s.heap.get? p = some o ∧ o.ExactDict := by
        rcases hk with ⟨kvs, hk⟩ | ⟨kvs, hk⟩
        · obtain ⟨_, _, _, _, o, _, _, e, ex, _⟩ := I.hok p _ hk
          exact ⟨o, e, ex⟩
        · obtain ⟨_, _, _, _, o, _, _, e, ex, _⟩ := I.hok p _ hk
          exact ⟨o, e, ex⟩
      obtain ⟨o, e, ex⟩ := z
      refine ⟨⟨o, e, ex.1⟩, fun a e2 => ?_⟩
      cases e2
      exact ⟨o, e, ex.2.1⟩
    · obtain ⟨o, _, _, _, e, ex, _⟩ := I.hok p _ hk
      refine ⟨⟨o, e, ex.1⟩, fun a e2 => ?_⟩
      cases e2
      exact ⟨o, e, ex.2.1⟩
  | _ => exact False.elim ty
def tBM0 (K : PySem.W.Frag) (T : String) (r : V → List V → Hp → VK → Prop) (to : TE) : TE := fun σ H Q => to σ H fun x H1 => tyV K T x H1 ∧ r x [] H1 Q
def tBM (K : PySem.W.Frag) (T : String) (r : V → List V → Hp → VK → Prop) (to : TE) (t : TA) : TE := fun σ H Q => to σ H fun x H1 => tyV K T x H1 ∧ t σ H1 fun xs H2 => r x xs H2 Q
variable {o e : Expr} {es : List Expr} {to : TE} {t : TA} {name : Str} {apos cpos : Pos} {T id : String} {r : V → List V → Hp → VK → Prop}
theorem pe_bm0 (pa : PlainAttrs T) (slot : Slot T name id) (hty : typeOf (.builtin id) = pure (.type "method_descriptor")) (hm : MtR X id r) (ho : PE X o to)
    (hbase : attributeBase o name X.env (eval o X.env) = eval o X.env := by rfl) (hline : (apos.endLine == cpos.line) = true := by rfl) : PE X (.Call (.Attribute o name apos) [] [] cpos) (tBM0 X.K T r to) := by
  intro pins s σ H Q I h
  refine wpAny_Call_method0_late hbase hline (thn (ho pins s σ H _ I h) fun v s1 ⟨x, H1, I1, r1, ty, q1⟩ => ?_)
  obtain ⟨h1, h2⟩ := tyV_is I1 r1 ty
  exact ⟨T, id, pa, slot, hty, h1, h2, Calls.callWith_builtin rfl (PySem.evalArgs_none (hm pins s1 σ H1 x [] v [] Q I1 r1 .nil q1))⟩
theorem pe_bm (pa : PlainAttrs T) (slot : Slot T name id) (hty : typeOf (.builtin id) = pure (.type "method_descriptor")) (hm : MtR X id r) (ho : PE X o to) (ha : PA X (e :: es) t)
    (hbase : attributeBase o name X.env (eval o X.env) = eval o X.env := by rfl)
    (hfew : ((backTo cpos (starEach (e :: es) X.env)).all (fun x => !x.1) && (backToKw cpos (keywordEach [] X.env)).all (fun x => x.1.isSome)
      && decide ((e :: es).length + ([] : List Keyword).length + (if ([] : List Keyword).isEmpty then 0 else 1) < 30)) = true := by rfl)
    (hline : (apos.endLine == cpos.line) = true := by rfl) (hs : starEach (e :: es) X.env = (false, eval e X.env) :: starEach es X.env := by rfl) (hplain : (backTo cpos (starEach es X.env)).any (·.1) = false := by rfl) :
    PE X (.Call (.Attribute o name apos) (e :: es) [] cpos) (tBM X.K T r to t) := by
  intro pins s σ H Q I h
  refine wpAny_Call_method_late hbase hfew hline rfl (thn (ho pins s σ H _ I h) fun v s1 ⟨x, H1, I1, r1, ty, q1⟩ => ?_)
  obtain ⟨h1, h2⟩ := tyV_is I1 r1 ty
  refine ⟨T, id, pa, slot, hty, h1, h2, ?_⟩
  have hA := ha cpos pins s1 σ H1 _ I1 q1
  rw [hs] at hA ⊢
  refine Calls.callWith_builtin (by show (false || (backTo cpos (starEach es X.env)).any (·.1)) = false; rw [hplain] <;> rfl) (Calls.evalArgs_plain ?_)
  exact thn hA fun us s2 ⟨vs, H2, I2, r2, q2⟩ => hm pins s2 σ H2 x vs v us Q I2 r1 r2 q2
/- xs.append(e), list.index on a module's tuple .. are MtR facts of 06m -/
end
end L2

namespace L2
open PySem PySem.Spec PyProof.Rows

def MtM (X : Cx) (id : String) (r : V → List V → Hp → VK → Prop) : Prop :=
  ∀ (pins : List (Addr × Obj)) (s : Shared) (σ : St) (H : Hp) (x : V) (xs : List V) (v : Value) (us : List Value) (Q : VK), Inv X pins σ H s → RelV x v → Vals xs us → r x xs H Q →
    wpAny (model X.prog X.w) X.A (call (.builtin id) (v :: us)) (EP X pins σ Q) X.xe s

/-! ### lists of values -/
theorem Vals.one : ∀ {x : V} {us : List Value}, Vals [x] us → ∃ u, us = [u] ∧ RelV x u
  | _, _, .cons r .nil => ⟨_, rfl, r⟩
theorem Vals.two : ∀ {x y : V} {us : List Value}, Vals [x, y] us → ∃ u v, us = [u, v] ∧ RelV x u ∧ RelV y v
  | _, _, _, .cons r (.cons q .nil) => ⟨_, _, rfl, r, q⟩
theorem Vals.zero : ∀ {us : List Value}, Vals [] us → us = []
  | _, .nil => rfl
theorem Vals.dropLast {xs : List V} {us : List Value} (h : Vals xs us) : Vals xs.dropLast us.dropLast := by
  induction h with
  | nil => exact .nil
  | cons r t ih =>
    cases t with
    | nil => exact .nil
    | cons q t' => exact .cons r ih
theorem Vals.eraseIdx : ∀ {xs : List V} {us : List Value} (i : Nat), Vals xs us → Vals (xs.eraseIdx i) (us.eraseIdx i)
  | _, _, _, .nil => .nil
  | _, _, 0, .cons _ t => t
  | _, _, i + 1, .cons r t => .cons r (Vals.eraseIdx i t)
theorem Vals.reverse {xs : List V} {us : List Value} (h : Vals xs us) : Vals xs.reverse us.reverse := by
  induction h with
  | nil => exact .nil
  | cons r t ih => rw [List.reverse_cons, List.reverse_cons]; exact Vals.append ih (.cons r .nil)
theorem Vals.rep {xs : List V} {us : List Value} (h : Vals xs us) : ∀ k : Nat, Vals (List.replicate k xs).flatten (List.replicate k us).flatten
  | 0 => .nil
  | k + 1 => by
    rw [List.replicate_succ, List.replicate_succ, List.flatten_cons, List.flatten_cons]
    exact Vals.append h (Vals.rep h k)
theorem erase_last {α : Type} (l : List α) : l.eraseIdx (l.length - 1) = l.dropLast := by
  induction l with
  | nil => rfl
  | cons a r ih =>
    cases r with
    | nil => rfl
    | cons b r =>
      have e : (a :: b :: r).length - 1 = ((b :: r).length - 1) + 1 := by
        have h1 : (a :: b :: r).length = r.length + 2 := rfl
        have h2 : (b :: r).length = r.length + 1 := rfl
        omega
      rw [e, List.eraseIdx_cons_succ, ih]
      all_goals rfl
theorem len_erase {α : Type} : ∀ (l : List α) (i : Nat), (l.eraseIdx i).length ≤ l.length
  | [], _ => Nat.le_refl _
  | _ :: _, 0 => Nat.le_succ _
  | _ :: r, i + 1 => Nat.succ_le_succ (len_erase r i)
theorem foldl_rep (its : List Value) : ∀ (k : Nat) (acc : List Value),
    List.foldl (fun x1 x2 => x1 ++ x2) acc.toArray (List.replicate k its.toArray) = (acc ++ (List.replicate k its).flatten).toArray
  | 0, acc => by simp
  | k + 1, acc => by
    have e : acc.toArray ++ its.toArray = (acc ++ its).toArray := by simp
    have e2 : (acc ++ its) ++ (List.replicate k its).flatten = acc ++ (List.replicate (k + 1) its).flatten := by
      rw [List.replicate_succ, List.flatten_cons, List.append_assoc]
    rw [← e2, ← foldl_rep its k (acc ++ its), ← e, List.replicate_succ, List.foldl_cons]

section
variable {X : Cx} {pins : List (Addr × Obj)} {σ : St} {H : Hp} {s : Shared} {l b : Addr} {xs ys zs : List V}

/-! ### the two steps: a tracked list is rewritten, a new list is laid -/
theorem Inv.lset {its its' : List Value} {n : Nat} {f : Array Value → Array Value} {t' : Nat} (I : Inv X pins σ H s) (hH : H l = some (.lst xs))
    (e : s.heap.get? l = some { cls := .type "list", data := .seq its.toArray n }) (hf : f its.toArray = its'.toArray) (hv : Vals ys its') (hz : ys.length ≤ sizeLine) :
    Inv X pins σ (upd H l (.lst ys)) { s with heap := s.heap.update l (Obj.mapSeq f), toks := t' } := by
  have q := PySem.IsL.update e f
  rw [hf] at q
  refine I.write (x := l) (e := l) (by rw [hH]; exact trivial) (.inl rfl) (fun b' u hb hu => (Heap.get?_update_other s.heap (Obj.mapSeq f) (Ne.symm hb)).trans hu) ⟨_, q⟩ ?_
  exact ⟨hz, its', _, hv, q⟩
theorem Inv.lnew {its : List Value} {t' : Nat} (I : Inv X pins σ H s) (hv : Vals ys its) (hz : ys.length ≤ sizeLine) :
    Inv X pins σ (upd H s.heap.objs.size (.lst ys)) { s with heap := s.heap.push { cls := .type "list", data := .seq its.toArray }, toks := t' } :=
  I.laid (fun _ _ q => Heap.get?_push_of_some _ q) (Nat.le_refl _) ⟨hz, its, 0, hv, Heap.get?_push_size _ rfl⟩
theorem Inv.fresh (I : Inv X pins σ H s) : H s.heap.objs.size = none := I.hok.fresh (Nat.le_refl _)
theorem Inv.lstM (I : Inv X pins σ H s) (hH : H l = some (.lst xs)) : xs.length ≤ sizeLine ∧ ∃ (its : List Value) (n : Nat), Vals xs its ∧ xs.length = its.length ∧ s.heap.get? l = some { cls := .type "list", data := .seq its.toArray n } := by
  obtain ⟨z, its, n, r, e⟩ := I.hok l _ hH
  exact ⟨z, its, n, r, r.length, e⟩

theorem notLongL {n : Nat} (h : n ≤ sizeLine) : Builtin.List.listTooLong n = false := by
  unfold Builtin.List.listTooLong
  exact decide_eq_false (by omega)
end

section
variable {X : Cx}

/-! ### methods -/
def rAppend : V → List V → Hp → VK → Prop := fun x vs H Q => ∃ l xs y, x = .ref l ∧ vs = [y] ∧ H l = some (.lst xs) ∧ xs.length < sizeLine ∧ Q .non (upd H l (.lst (xs ++ [y])))
theorem mt_append : MtM X "list.append" rAppend := by
  intro pins s σ H x vs v us Q I rx rv h
  obtain ⟨l, xs, y, rfl, rfl, hH, hz, q⟩ := h
  cases rx
  obtain ⟨u, rfl, ru⟩ := rv.one
  obtain ⟨z, its, n, r, hl, e⟩ := I.lstM hH
  refine call_meets F.slot_list_append ⟨_, e, rfl⟩ F.entry_list_append (F.args_list_append_2 _ _) (PySem.list_append l its.toArray n u (by rw [List.size_toArray]; omega)) ⟨e, ?_⟩
  refine ⟨.non, _, I.lset (its' := its ++ [u]) hH e (by simp) (r.append (.cons ru .nil)) ?_, rfl, q⟩
  rw [List.length_append, List.length_singleton]
  omega

def rExtend : V → List V → Hp → VK → Prop := fun x vs H Q => ∃ l b xs zs, x = .ref l ∧ vs = [.ref b] ∧ H l = some (.lst xs) ∧ H b = some (.lst zs) ∧ xs.length + zs.length ≤ sizeLine ∧ Q .non (upd H l (.lst (xs ++ zs)))
theorem mt_extend : MtM X "list.extend" rExtend := by
  intro pins s σ H x vs v us Q I rx rv h
  obtain ⟨l, b, xs, zs, rfl, rfl, hH, hB, hz, q⟩ := h
  cases rx
  obtain ⟨u, rfl, ru⟩ := rv.one
  cases ru
  obtain ⟨z, its, n, r, hl, e⟩ := I.lstM hH
  obtain ⟨z2, its2, n2, r2, hl2, e2⟩ := I.lstM hB
  have hsz : its.toArray.size + its2.toArray.size ≤ sizeLine := by rw [List.size_toArray, List.size_toArray]; omega
  have hlong : ¬ (!its.toArray.isEmpty && Builtin.List.listTooLong (its.toArray.size + its2.toArray.size)) = true := by
    rw [notLongL hsz, Bool.and_false]
    exact Bool.false_ne_true
  refine call_meets F.slot_list_extend ⟨_, e, rfl⟩ F.entry_list_extend (F.args_list_extend_2 _ _)
    (AutoSeq1.list_extend_list_list_0 l its.toArray n b its2.toArray n2 hlong (by rw [List.size_toArray]; omega) (by omega)) ⟨e, e2, ?_⟩
  refine ⟨.non, _, I.lset (its' := its ++ its2) hH e (by simp) (r.append r2) ?_, rfl, q⟩
  rw [List.length_append]
  omega

def rPop : V → List V → Hp → VK → Prop := fun x vs H Q => ∃ l xs y, x = .ref l ∧ vs = [] ∧ H l = some (.lst xs) ∧ xs[xs.length - 1]? = some y ∧ Q y (upd H l (.lst xs.dropLast))
theorem mt_pop : MtM X "list.pop" rPop := by
  intro pins s σ H x vs v us Q I rx rv h
  obtain ⟨l, xs, y, rfl, rfl, hH, hy, q⟩ := h
  cases rx
  have hus := rv.zero
  subst hus
  obtain ⟨z, its, n, r, hl, e⟩ := I.lstM hH
  obtain ⟨u, hu, ru⟩ := r.get hy
  have hy' : its.toArray[its.toArray.size - 1]? = some u := by
    show its.toArray[its.length - 1]? = some u
    rw [← Array.getElem?_toList, ← hl]
    exact hu
  refine call_meets F.slot_list_pop ⟨_, e, rfl⟩ F.entry_list_pop (F.args_list_pop_1 _) (MeetsSeq.list_pop_last l its.toArray n u hy' (by rw [List.size_toArray]; omega)) ⟨e, ?_⟩
  refine ⟨y, _, I.lset (its' := its.dropLast) hH e ?_ r.dropLast ?_, ru, q⟩
  · show its.toArray.eraseIdxIfInBounds (its.toArray.size - 1) = its.dropLast.toArray
    rw [List.size_toArray, List.eraseIdxIfInBounds_toArray, erase_last]
  · rw [List.length_dropLast]
    omega

def rPopAt : V → List V → Hp → VK → Prop := fun x vs H Q => ∃ l xs i k y, x = .ref l ∧ vs = [.int i] ∧ H l = some (.lst xs) ∧ -(2 ^ 63) ≤ i ∧ i < 2 ^ 63 ∧ seqIndex? i xs.length = some k ∧ xs[k]? = some y ∧ Q y (upd H l (.lst (xs.eraseIdx k)))
theorem mt_popAt : MtM X "list.pop" rPopAt := by
  intro pins s σ H x vs v us Q I rx rv h
  obtain ⟨l, xs, i, k, y, rfl, rfl, hH, h1, h2, hk, hy, q⟩ := h
  cases rx
  obtain ⟨u, rfl, ru⟩ := rv.one
  obtain ⟨t, rfl⟩ := ru
  obtain ⟨z, its, n, r, hl, e⟩ := I.lstM hH
  obtain ⟨w, hw, rw'⟩ := r.get hy
  refine call_meets F.slot_list_pop ⟨_, e, rfl⟩ F.entry_list_pop (F.args_list_pop_2 _ _)
    (MeetsSeq.list_pop_at l its.toArray n i t k w (fitsIndex_both h1 h2) (by rw [List.size_toArray, ← hl]; exact hk) (by rw [← Array.getElem?_toList]; exact hw) (by rw [List.size_toArray]; omega)) ⟨e, ?_⟩
  refine ⟨y, _, I.lset (its' := its.eraseIdx k) hH e ?_ (r.eraseIdx k) ?_, rw', q⟩
  · show its.toArray.eraseIdxIfInBounds k = (its.eraseIdx k).toArray
    rw [List.eraseIdxIfInBounds_toArray]
  · have := len_erase xs k
    omega

def rReverse : V → List V → Hp → VK → Prop := fun x vs H Q => ∃ l xs, x = .ref l ∧ vs = [] ∧ H l = some (.lst xs) ∧ Q .non (upd H l (.lst xs.reverse))
theorem mt_reverse : MtM X "list.reverse" rReverse := by
  intro pins s σ H x vs v us Q I rx rv h
  obtain ⟨l, xs, rfl, rfl, hH, q⟩ := h
  cases rx
  have hus := rv.zero
  subst hus
  obtain ⟨z, its, n, r, hl, e⟩ := I.lstM hH
  refine call_meets F.slot_list_reverse ⟨_, e, rfl⟩ F.entry_list_reverse (F.args_list_reverse_1 _) (AutoSeq1.list_reverse_list_0 l its.toArray n (by rw [List.size_toArray]; omega)) ⟨e, ?_⟩
  refine ⟨.non, _, I.lset (its' := its.reverse) hH e (by simp) r.reverse ?_, rfl, q⟩
  rw [List.length_reverse]
  omega

def rClear : V → List V → Hp → VK → Prop := fun x vs H Q => ∃ l xs, x = .ref l ∧ vs = [] ∧ H l = some (.lst xs) ∧ Q .non (upd H l (.lst []))
theorem mt_clear : MtM X "list.clear" rClear := by
  intro pins s σ H x vs v us Q I rx rv h
  obtain ⟨l, xs, rfl, rfl, hH, q⟩ := h
  cases rx
  have hus := rv.zero
  subst hus
  obtain ⟨z, its, n, r, hl, e⟩ := I.lstM hH
  refine call_meets F.slot_list_clear ⟨_, e, rfl⟩ F.entry_list_clear (F.args_list_clear_1 _) (AutoSeq1.list_clear_list_0 l its.toArray n (by rw [List.size_toArray]; omega)) ⟨e, ?_⟩
  exact ⟨.non, _, I.lset (its' := []) (ys := []) hH e rfl .nil (Nat.zero_le _), rfl, q⟩

/-! ### list + list, list += list, list * int -/
def rCat : R2 := fun x y H Q => ∃ l b xs zs, x = .ref l ∧ y = .ref b ∧ H l = some (.lst xs) ∧ H b = some (.lst zs) ∧ xs.length + zs.length ≤ sizeLine ∧ ∀ p, H p = none → Q (.ref p) (upd H p (.lst (xs ++ zs)))
theorem op_cat : OpR X (binaryOp .Add) rCat := by
  intro pins s σ H x y v u Q I rx ry h
  obtain ⟨l, b, xs, zs, rfl, rfl, hH, hB, hz, q⟩ := h
  cases rx
  cases ry
  obtain ⟨z, its, n, r, hl, e⟩ := I.lstM hH
  obtain ⟨z2, its2, n2, r2, hl2, e2⟩ := I.lstM hB
  refine PySem.P.add_list e e2 ?_ (by rw [List.size_toArray, List.size_toArray]; omega)
  have ea : its.toArray ++ its2.toArray = (its ++ its2).toArray := by simp
  rw [ea]
  exact ⟨.ref _, _, I.lnew (t' := s.toks) (r.append r2) (by rw [List.length_append]; omega), rfl, q _ I.fresh⟩
/-- a list times an int (a negative one is nothing) -/
def rRep : R2 := fun x y H Q => ∃ l k xs, x = .ref l ∧ y = .int k ∧ H l = some (.lst xs) ∧ -(2 ^ 63) ≤ k ∧ k < 2 ^ 63 ∧ xs.length * k.toNat ≤ sizeLine ∧
  ∀ p, H p = none → Q (.ref p) (upd H p (.lst (List.replicate k.toNat xs).flatten))
theorem len_rep {α : Type} (xs : List α) (k : Nat) : (List.replicate k xs).flatten.length = k * xs.length := by
  induction k with
  | zero => simp
  | succ k ih => rw [List.replicate_succ, List.flatten_cons, List.length_append, ih, Nat.succ_mul, Nat.add_comm]
theorem op_rep : OpR X (binaryOp .Mult) rRep := by
  intro pins s σ H x y v u Q I rx ry h
  obtain ⟨l, k, xs, rfl, rfl, hH, h1, h2, hz, q⟩ := h
  cases rx
  obtain ⟨t, rfl⟩ := ry
  obtain ⟨z, its, n, r, hl, e⟩ := I.lstM hH
  have hlen : its.toArray.size * k.toNat ≤ sizeLine := by rw [List.size_toArray, ← hl]; exact hz
  have hcap : ¬ its.toArray.size * k.toNat > (2 ^ 63 - 1) / 8 := by
    have : (sizeLine : Nat) ≤ (2 ^ 63 - 1) / 8 := by decide
    omega
  have hfit : ¬ (!Builtin.List.listFitsIndex k) = true := by
    rw [fitsIndex_both h1 h2]
    exact Bool.false_ne_true
  have hlong : ¬ Builtin.List.listTooLong (its.toArray.size * k.toNat) = true := by
    rw [notLongL hlen]
    exact Bool.false_ne_true
  have hnew : List.foldl (fun x1 x2 => x1 ++ x2) #[] (List.replicate (if its.toArray.isEmpty = true then 0 else k.toNat) its.toArray) = (List.replicate k.toNat its).flatten.toArray := by
    have f0 : ∀ m : Nat, List.foldl (fun x1 x2 => x1 ++ x2) #[] (List.replicate m its.toArray) = (List.replicate m its).flatten.toArray := fun m => by
      have := foldl_rep its m []
      rw [List.nil_append] at this
      exact this
    rw [f0]
    cases its with
    | nil => simp
    | cons a r' => rw [if_neg (by simp)]
  refine wpAny_binaryOp_repeat_ref (T := "list") (U := "int") (by decide) ⟨_, e, rfl⟩ (fun s' => typeIs_int s' k t) noFill_list_mul F.fills_int_mul F.slot_int_rmul repeat_list F.slot_int_index.lookup
    (call_meets F.slot_int_rmul (typeIs_int s k t) F.entry_int_rmul (F.args_int_rmul_2 _ _) (int___rmul___int_list k t l its.toArray n)
      ⟨e, rfl, ⟨_, e, rfl⟩, call_meets F.slot_list_mul ⟨_, e, rfl⟩ F.entry_list_mul (F.args_list_mul_2 _ _) (AutoListH.list___mul___list_int_3 l its.toArray n k t hfit hcap hlong) ⟨e, ?_⟩⟩)
  rw [hnew]
  exact ⟨.ref _, _, I.lnew (t' := s.toks) (r.rep k.toNat) (by rw [len_rep, Nat.mul_comm]; exact hz), rfl, q _ I.fresh⟩

/-! ### del xs[i] -/
theorem del_list {pins : List (Addr × Obj)} {s : Shared} {σ : St} {H : Hp} {l : Addr} {xs : List V} {i : Int} {t : Tok} {k : Nat} {Q : Unit → Shared → Prop} (I : Inv X pins σ H s) (hH : H l = some (.lst xs))
    (h1 : -(2 ^ 63) ≤ i) (h2 : i < 2 ^ 63) (hk : seqIndex? i xs.length = some k) (h : ∀ s', Inv X pins σ (upd H l (.lst (xs.eraseIdx k))) s' → Q () s') :
    wpAny (model X.prog X.w) X.A (delItem (.ref l) (.int i t)) Q X.xe s := by
  obtain ⟨z, its, n, r, hl, e⟩ := I.lstM hH
  refine PySem.P.delItem_list (k := k) e (fitsIndex_both h1 h2) (by rw [List.size_toArray, ← hl]; exact hk) (h _ ?_) (by rw [List.size_toArray]; omega)
  refine I.lset (its' := its.eraseIdx k) (t' := s.toks) hH e ?_ (r.eraseIdx k) ?_
  · show its.toArray.eraseIdxIfInBounds k = (its.eraseIdx k).toArray
    rw [List.eraseIdxIfInBounds_toArray]
  · have := len_erase xs k
    omega
end

/-! ### xs[a:b] = ys -/
section
variable {prog : Program} {w : World} {A : Around} {E : Value → Shared → Prop} {s : Shared}
theorem splice_eq (its its2 : List Value) (a c : Nat) : its.toArray.extract 0 a ++ its2.toArray ++ its.toArray.extract c its.toArray.size = (its.take a ++ its2 ++ its.drop c).toArray := by
  apply Array.toList_inj.mp
  first
    | (simp
       exact List.take_of_length_le (by simp))
    | simp [List.take_of_length_le]
    | simp
theorem bounds_run {a c n : Nat} (hac : a ≤ c) (hc : c ≤ n) : sliceBounds (some (a : Int)) (some (c : Int)) none n = ((a : Int), (c : Int), 1) := by
  simp only [sliceBounds, Option.getD_none]
  have h1 : ¬ ((a : Int) < 0) := by omega
  have h2 : ¬ ((c : Int) < 0) := by omega
  simp only [h1, h2, if_false, show (1 : Int) > 0 by decide, if_true]
  congr 1
  · omega
  · congr 1; omega
set_option maxRecDepth 100000 in
/-- list.__setitem__ with a slice of step one and another list -/
theorem setItem_slice {l b sl : Addr} {items new : Array Value} {n n2 : Nat} {vl vu : Value} {a c : Nat} {Q : Unit → Shared → Prop}
    (e : s.heap.get? l = some { cls := .type "list", data := .seq items n }) (e2 : s.heap.get? b = some { cls := .type "list", data := .seq new n2 }) (hne : l ≠ b)
    (hs : s.heap.IsSliceOf sl vl vu .none) (pl : IsPart vl (some (a : Int))) (pu : IsPart vu (some (c : Int))) (hac : a ≤ c) (hc : c ≤ items.size)
    (hsz : items.size + new.size ≤ sizeLine) (h : Q () { s with heap := s.heap.update l (Obj.mapSeq fun xs => xs.extract 0 a ++ new ++ xs.extract c xs.size) }) :
    wpAny (model prog w) A (setItem (.ref l) (.ref sl) (.ref b)) Q E s := by
  have hl : s.heap.IsList l items := PySem.IsL.isList e
  have hb : s.heap.IsList b new := PySem.IsL.isList e2
  obtain ⟨os, hos, hcs, hds⟩ := id hs
  have hTs : s.TypeIs (.ref sl) "slice" := ⟨os, hos, hcs⟩
  have hstep : ¬ ((rawPart none == rawInt 0) = true) := Bool.false_ne_true
  have hsame : Builtin.List.listSameRef (.ref l) (.ref b) = false := by
    unfold Builtin.List.listSameRef
    exact beq_eq_false_iff_ne.mpr hne
  have hmax : (max (a : Int) (c : Int)).toNat = c := by omega
  have hz' : ((fun xs : Array Value => xs.extract 0 a ++ new ++ xs.extract c xs.size) items).size ≤ sizeLine + 1 := by
    simp only [Array.size_append, Array.size_extract]
    omega
  unfold setItem
  try with_reducible refine wpAny_holding ?_
  first | refine wpAny_bind (wpAny_pure ?_) | skip
  refine wpAny_bind (wpAny_sequenceKey hl.typeIs (by decide) ?_)
  refine wpAny_bind (wpAny_callSpecial?_slot (name := Str.ofString "__setitem__") hl.typeIs slot_list_setitem
    (wpAny_call_entry slot_list_setitem hl.typeIs entry_list_setitem ?_ (args_list_setitem _ _ _)))
  show wpAny _ _ (Builtin.List.listSubscript? (.ref sl) >>= _) _ _ s
  refine wpAny_bind ?_
  unfold Builtin.List.listSubscript?
  refine wpAny_bind (wpAny_specialOf hTs slice_no_index ?_)
  simp only [Option.isNone_none, if_true]
  refine wpAny_pure ?_
  show wpAny _ _ (typeOf (.ref sl) >>= _) _ _ s
  refine wpAny_bind (wpAny_typeOf hTs ?_)
  first
    | rw [if_neg (by decide)]
    | refine PySem.W.KFB.if_not (by decide) ?_
  rw [listSliceParts_eq]
  refine wpAny_bind (wpAny_bind (wpAny_field hos hds (x := .none) rfl (wpAny_bind (wpAny_listPart .none ?_))))
  rw [if_neg hstep]
  refine wpAny_bind (wpAny_field hos hds (x := vl) rfl (wpAny_bind (wpAny_listPart pl ?_)))
  refine wpAny_bind (wpAny_field hos hds (x := vu) rfl (wpAny_bind (wpAny_listPart pu (wpAny_pure ?_))))
  first
    | simp only [hsame, Bool.false_eq_true, if_false]
    | refine PySem.W.KFB.if_not hsame ?_
    | (dsimp only
       rw [if_neg (by rw [hsame]; exact Bool.false_ne_true)])
  refine wpAny_bind (m := Builtin.List.listAllItems (.ref b) "must assign iterable to extended slice") ?_
  unfold Builtin.List.listAllItems
  refine wpAny_bind (wpAny_typeOf hb.typeIs ?_)
  first
    | refine PySem.W.KFB.if_so (by decide) ?_
    | rw [if_pos (by decide)]
    | simp only [beq_self_eq_true, Bool.true_or, if_true]
  unfold Builtin.List.listItems
  refine wpAny_bind (wpAny_seqItems e2 rfl (wpAny_pure ?_))
  refine wpAny_bind (wpAny_bind (wpAny_seqItems e rfl (wpAny_pure ?_)))
  refine wpAny_bind (wpAny_of_eq ((sliceIndices_raw (some (a : Int)) (some (c : Int)) none items.size (by simp)).trans (congrArg (pure : Int × Int × Int → Sem (Int × Int × Int)) (bounds_run hac hc))) ?_)
  show wpAny _ _ (if ((1 : Int) == 1) = true then _ else _) _ _ s
  rw [if_pos (by decide)]
  refine wpAny_bind (wpAny_rule ?_)
  first
    | simp only [notLongL hsz, Bool.false_eq_true, if_false]
    | refine PySem.W.KFB.if_not (notLongL hsz) ?_
  first | refine wpAny_bind (wpAny_pure ?_) | skip
  show wpAny _ _ (updateSeq l (fun xs => xs.extract 0 ((a : Int)).toNat ++ new ++ xs.extract (max (a : Int) (c : Int)).toNat xs.size) >>= _) _ _ s
  rw [hmax, Int.toNat_natCast]
  refine wpAny_bind (wpAny_updateSeq (hz := Nat.le_trans (Nat.le_add_right _ _) hsz) (_hz' := hz') e rfl ?_)
  refine wpAny_bind (wpAny_letGo ?_)
  first
    | exact wpAny_bind (wpAny_pure (wpAny_pure ⟨.none, rfl, wpAny_pure h⟩))
    | exact wpAny_pure ⟨.none, rfl, wpAny_pure h⟩
end

section
variable {X : Cx}
/-- xs[a:c] = ys of another list, at the value level: sl is the slice object that was just made -/
theorem set_slice {pins : List (Addr × Obj)} {s : Shared} {σ : St} {H : Hp} {l b sl : Addr} {xs ys : List V} {a c : Int} {vl vu : Value} {Q : Unit → Shared → Prop} (I : Inv X pins σ H s)
    (hH : H l = some (.lst xs)) (hB : H b = some (.lst ys)) (hne : l ≠ b) (hs : s.heap.IsSliceOf sl vl vu .none) (ra : RelV (.int a) vl) (rc : RelV (.int c) vu) (h0 : 0 ≤ a) (hac : a ≤ c) (hc : c ≤ xs.length)
    (hz : xs.length + ys.length ≤ sizeLine) (h : ∀ s', Inv X pins σ (upd H l (.lst (xs.take a.toNat ++ ys ++ xs.drop c.toNat))) s' → Q () s') :
    wpAny (model X.prog X.w) X.A (setItem (.ref l) (.ref sl) (.ref b)) Q X.xe s := by
  obtain ⟨ta, rfl⟩ := ra
  obtain ⟨tc, rfl⟩ := rc
  obtain ⟨z, its, n, r, hl, e⟩ := I.lstM hH
  obtain ⟨z2, its2, n2, r2, hl2, e2⟩ := I.lstM hB
  obtain ⟨a', rfl⟩ := Int.eq_ofNat_of_zero_le h0
  obtain ⟨c', rfl⟩ := Int.eq_ofNat_of_zero_le (Int.le_trans h0 hac)
  simp only [Int.toNat_natCast] at h
  refine setItem_slice (a := a') (c := c') e e2 hne hs (.int _ _) (.int _ _) (by omega) (by rw [List.size_toArray]; omega) (by rw [List.size_toArray, List.size_toArray]; omega) (h _ ?_)
  refine I.lset (its' := its.take a' ++ its2 ++ its.drop c') (t' := s.toks) hH e ?_ (Vals.append (Vals.append (r.take _) r2) (r.drop _)) ?_
  · exact splice_eq its its2 a' c'
  · rw [List.length_append, List.length_append, List.length_take, List.length_drop]
    omega
end
end L2

namespace Att
open PySem PySem.W PySem.Calls PyProof.Rows

/-! ### the script -/
theorem ints_of_wellAll {P : Params} {h : Heap} : ∀ (ns : List Int) (vs : List Value), WellAll P h vs (ns.map WData.int) → IntsAre vs ns := by
  intro ns
  induction ns with
  | nil =>
    intro vs w
    rw [List.map_nil] at w
    cases w
    exact .nil
  | cons n ns ih =>
    intro vs w
    rw [List.map_cons] at w
    cases w with
    | cons a b =>
      cases a
      exact .cons _ _ (ih _ b)

theorem script_of {l : OpenLaw} {n : Nat} (hn : l.most = some n) {P : Params} {h : Heap} {args : List WData} {vals : List Value}
    (hpre : l.row.toRowW.claim.pre args = true) (hwl : WellAll P h vals args) :
    ∃ a vs ns, vals = [Value.ref a] ∧ args = [WData.list (ns.map WData.int)] ∧ h.get? a = some { cls := .type "list", data := .seq vs.toArray } ∧ IntsAre vs ns ∧ ns.length ≤ n := by
  have hsh : WShape.hasAll [] args [.list .int] = true := (pre_splitW hpre).1
  have hc : l.pre.holds [] { args := args } = true := (pre_splitW hpre).2
  obtain ⟨d, r, rfl, h1, h2⟩ := hasAllW_cons hsh
  obtain rfl := hasAllW_nil h2
  obtain ⟨xs, rfl, h3⟩ := hasW_list h1
  obtain ⟨ns, rfl⟩ := items_int h3
  have hlen : ns.length ≤ n := by
    unfold OpenLaw.pre at hc
    have h4 : (WTm.not (.lt (.lit (.int (n : Int))) (.len (.arg 0)))).holds [] { args := [.list (ns.map .int)] } = true := by
      have h4 := (holds_andW hc).1
      rw [hn] at h4
      exact h4
    have h5 := condW_of h4 (w_not (w_lt w_lit (w_len_list (w_arg rfl))))
    rw [List.length_map] at h5
    refine Nat.le_of_not_lt fun q => ?_
    have q' : (n : Int) < ((ns.length : Nat) : Int) := by omega
    first
      | (rw [decide_eq_true q'] at h5; exact absurd h5 (by decide))
      | (simp at h5; omega)
  cases hwl with
  | cons w1 w2 =>
    cases w2
    cases w1 with
    | list ho hall => exact ⟨_, _, ns, rfl, rfl, ho, ints_of_wellAll ns _ hall, hlen⟩

theorem post_true (l : OpenLaw) (args : List WData) : l.row.toRowW.claim.post args (.bool true) args = true :=
  postW_of (r := l.row.toRowW) (X := (true == true))
    (show WShape.has [] (.bool true) .bool = true by first | rfl | decide | simp [WShape.has, WShape.arms, WShape.armsAll])
    (show (WTm.eq .res (.lit (.bool true))).value [] { args := args, res := some (.bool true), after := args } = some (.bool (true == true)) from w_eq_bool (w_res rfl) w_lit) rfl

/-! ### the attachment: holds_open's last premise (the goal 'hc' behind k_head) from a wpAny of the law's body -/
theorem attach {l : OpenLaw} {n : Nat} {q : Program} {loose : List Str} {XP : (Str → Option Value) → Heap → Prop} {YP : World → Heap → Prop} {d : DefRec} {x : Str}
    (hn : l.most = some n) (hdf : d.params.defaults = [])
    (hbind : ∀ pm cd doc v : Value, bindArgs (docDef d.name d.params d.body d.scope pm cd doc) ⟨[v], []⟩ = pure [(x, v)])
    (hx : d.scope.names.lookup x = some .local ∨ d.scope.names.lookup x = some .cell)
    (hk : d.scope.kind = .function) (hco : d.scope.isCoroutine = false) (hgen : d.scope.isGenerator = false)
    (body : ∀ (w : World) (s₀ s₁ s : Shared) (mg mb : Str → Option Value) (fa : Addr) (o : Obj) (pm cd doc : Value) (a : Addr) (vs : List Value) (ns : List Int),
      Ground q loose [] XP w s₀ mg mb s₁.heap → YP w s₁.heap →
      s₁.heap.get? fa = some o → o.data = .func (docDef d.name d.params d.body d.scope pm cd doc) → s₁.heap.CodeRec cd d.name → mg d.name = some (.ref fa) →
      s₁.heap.get? a = some { cls := .type "list", data := .seq vs.toArray } → IntsAre vs ns → ns.length ≤ n →
      s.gens = #[] → s.os = s₁.os →
      Fr s₁.heap s₁.heap.objs.size s.heap (bindL (envOfC d.name d.scope s₁.heap.objs.size fa cd).kindOf [(x, .ref a)] fun _ => none) →
      Cl s₁.heap.objs.size (cellsFrom (s₁.heap.objs.size + 1) d.scope.names []) s.heap (bindC (envOfC d.name d.scope s₁.heap.objs.size fa cd).kindOf [(x, .ref a)] fun _ => none) →
      wpAny (model l.prog w) (callerA.deeper (envOfC d.name d.scope s₁.heap.objs.size fa cd)) (execs d.body (envOfC d.name d.scope s₁.heap.objs.size fa cd))
        (fun f s' => f = .ret (.bool true) ∧ OldK s₁.heap s'.heap ∧ s'.os = s₁.os ∧ AllBare s'.gens) (fun _ _ => False) s) :
    WalkO q loose XP YP l.row.toRowW d [] (fun f vs => PySem.call f vs) := by
  intro w s₀ s₁ mg mb G Y fa o pm cd doc dV kV ho hd hcd hD hmg hg args vals as hpre hlay hrd hwl hlo
  obtain rfl : dV = .none := Dflts.none hD hdf
  obtain rfl : kV = .none := Dflts.noKw hD
  obtain ⟨a, vs, ns, rfl, rfl, hobj, hints, hlen⟩ := script_of hn hpre hwl
  refine enter_call ?_
  refine call_cells_ret (o := o) (by rw [depth_caller]; decide) ho (fd_plain hd) G.T.nolimit hcd (hbind pm cd doc (.ref a)) (fun y hy => ?_) (fun h₁ tk F X => ?_) hco hgen hk
  · obtain rfl : y = (x, Value.ref a) := List.mem_singleton.mp hy
    rcases hx with e | e
    · exact .inl e
    · exact .inr ⟨e, cellsFrom_some _ _ _ (.inl e)⟩
  · refine wpAny_mono (body w s₀ s₁ { s₁ with heap := h₁, toks := tk } mg mb fa o pm cd doc a vs ns G Y ho (fd_plain hd) hcd hmg hobj hints hlen hg rfl F X) (fun f s' hq => ?_) (fun _ _ hq => hq)
    obtain ⟨rfl, h2, h3, h4⟩ := hq
    exact ⟨.inl ⟨.bool true, .bool true, [], rfl, fun _ => rfl, .bool true, post_true l _, fun _ => ⟨List.Pairwise.nil, fun _ hm => (nomatch hm)⟩⟩, h2, h3, h4⟩

/-- the same from a codeAny of the CALL (for a layer whose function contracts speak of calls) -/
theorem attach_call {l : OpenLaw} {n : Nat} {q : Program} {loose : List Str} {XP : (Str → Option Value) → Heap → Prop} {YP : World → Heap → Prop} {d : DefRec}
    (hn : l.most = some n) (hdf : d.params.defaults = [])
    (call : ∀ (w : World) (s₀ s₁ : Shared) (mg mb : Str → Option Value) (fa : Addr) (o : Obj) (pm cd doc : Value) (a : Addr) (vs : List Value) (ns : List Int),
      Ground q loose [] XP w s₀ mg mb s₁.heap → YP w s₁.heap →
      s₁.heap.get? fa = some o → o.data = .func (docDef d.name d.params d.body d.scope pm cd doc) → s₁.heap.CodeRec cd d.name → mg d.name = some (.ref fa) →
      s₁.heap.get? a = some { cls := .type "list", data := .seq vs.toArray } → IntsAre vs ns → ns.length ≤ n → s₁.gens = #[] →
      codeAny (model l.prog w) callerA (.call (.ref fa) ⟨[.ref a], []⟩) (fun r s' => r = .ok (.ret (.bool true)) ∧ OldK s₁.heap s'.heap ∧ s'.os = s₁.os ∧ AllBare s'.gens) s₁) :
    WalkO q loose XP YP l.row.toRowW d [] (fun f vs => PySem.call f vs) := by
  intro w s₀ s₁ mg mb G Y fa o pm cd doc dV kV ho hd hcd hD hmg hg args vals as hpre hlay hrd hwl hlo
  obtain rfl : dV = .none := Dflts.none hD hdf
  obtain rfl : kV = .none := Dflts.noKw hD
  obtain ⟨a, vs, ns, rfl, rfl, hobj, hints, hlen⟩ := script_of hn hpre hwl
  refine enter_call (codeAny_mono (call w s₀ s₁ mg mb fa o pm cd doc a vs ns G Y ho (fd_plain hd) hcd hmg hobj hints hlen hg) fun r s' hq => ?_)
  obtain ⟨rfl, h2, h3, h4⟩ := hq
  exact ⟨.inl ⟨.bool true, .bool true, [], rfl, fun _ => rfl, .bool true, post_true l _, fun _ => ⟨List.Pairwise.nil, fun _ hm => (nomatch hm)⟩⟩, h2, h3, h4⟩

/-- the same where the top left finished generators (o_head chose holds_openN): nothing may have changed at all and no generator may be left -/
theorem attachN {l : OpenLaw} {n : Nat} {q : Program} {loose : List Str} {XP : (Str → Option Value) → Heap → Prop} {YP : World → Heap → Prop} {d : DefRec} {x : Str}
    (hn : l.most = some n) (hdf : d.params.defaults = [])
    (hbind : ∀ pm cd doc v : Value, bindArgs (docDef d.name d.params d.body d.scope pm cd doc) ⟨[v], []⟩ = pure [(x, v)])
    (hx : d.scope.names.lookup x = some .local ∨ d.scope.names.lookup x = some .cell)
    (hk : d.scope.kind = .function) (hco : d.scope.isCoroutine = false) (hgen : d.scope.isGenerator = false)
    (body : ∀ (w : World) (s₀ s₁ s : Shared) (mg mb : Str → Option Value) (fa : Addr) (o : Obj) (pm cd doc : Value) (a : Addr) (vs : List Value) (ns : List Int),
      Ground q loose [] XP w s₀ mg mb s₁.heap → YP w s₁.heap →
      s₁.heap.get? fa = some o → o.data = .func (docDef d.name d.params d.body d.scope pm cd doc) → s₁.heap.CodeRec cd d.name → mg d.name = some (.ref fa) →
      s₁.heap.get? a = some { cls := .type "list", data := .seq vs.toArray } → IntsAre vs ns → ns.length ≤ n →
      s.gens = #[] → s.os = s₁.os →
      Fr s₁.heap s₁.heap.objs.size s.heap (bindL (envOfC d.name d.scope s₁.heap.objs.size fa cd).kindOf [(x, .ref a)] fun _ => none) →
      Cl s₁.heap.objs.size (cellsFrom (s₁.heap.objs.size + 1) d.scope.names []) s.heap (bindC (envOfC d.name d.scope s₁.heap.objs.size fa cd).kindOf [(x, .ref a)] fun _ => none) →
      wpAny (model l.prog w) (callerA.deeper (envOfC d.name d.scope s₁.heap.objs.size fa cd)) (execs d.body (envOfC d.name d.scope s₁.heap.objs.size fa cd))
        (fun f s' => f = .ret (.bool true) ∧ (∀ b o, s₁.heap.get? b = some o → s'.heap.get? b = some o) ∧ s'.os = s₁.os ∧ s'.gens = #[]) (fun _ _ => False) s) :
    WalkN q loose XP YP l.row.toRowW d [] (fun f vs => PySem.call f vs) := by
  intro w s₀ s₁ mg mb G Y fa o pm cd doc dV kV ho hd hcd hD hmg hg args vals as hpre hlay hrd hwl hlo
  obtain rfl : dV = .none := Dflts.none hD hdf
  obtain rfl : kV = .none := Dflts.noKw hD
  obtain ⟨a, vs, ns, rfl, rfl, hobj, hints, hlen⟩ := script_of hn hpre hwl
  refine enter_callW ?_
  refine call_cells_ret (o := o) (by rw [depth_caller]; decide) ho (fd_plain hd) G.T.nolimit hcd (hbind pm cd doc (.ref a)) (fun y hy => ?_) (fun h₁ tk F X => ?_) hco hgen hk
  · obtain rfl : y = (x, Value.ref a) := List.mem_singleton.mp hy
    rcases hx with e | e
    · exact .inl e
    · exact .inr ⟨e, cellsFrom_some _ _ _ (.inl e)⟩
  · refine wpAny_mono (body w s₀ s₁ { s₁ with heap := h₁, toks := tk } mg mb fa o pm cd doc a vs ns G Y ho (fd_plain hd) hcd hmg hobj hints hlen hg rfl F X) (fun f s' hq => ?_) (fun _ _ hq => hq)
    obtain ⟨rfl, h2, h3, h4⟩ := hq
    exact ⟨.inl ⟨.bool true, .bool true, [], rfl, fun _ => rfl, .bool true, post_true l _, fun _ => ⟨List.Pairwise.nil, fun _ hm => (nomatch hm)⟩⟩, h2, h3, h4⟩

/-! ### rules over ANY heap (no ledger) from facts about the written part K: the library's own take a ledger (News) for what they write -/
section
variable {prog : Program} {w : World} {A : Around} {E : Value → Shared → Prop} {s : Shared} {K : Frag}

/-- a def of the module, or a method (qual 'C.m'), entered: the frame is the next address; cells behind it -/
theorem call_fn {R : Result → Shared → Prop} {name qual : Str} {params : Arguments} {body : List Stmt} {scope : Scope} {dV kV doc pm cdv ct oc : Value} {an od : Option Addr} {osl : Array (Option Value)} {f : Addr} {args : Args} {binds : List (Str × Value)}
    (X : K.In s.heap) (hlim : s.heap.NoLimit) (ho : K.lookup f = some ⟨oc, od, .func (fnOf name qual params body scope dV kV doc pm an cdv ct), osl⟩) (hcd : codeIn K cdv qual = true) (hroom : A.depth < recursionLimit)
    (hbind : BindsTo s (fnOf name qual params body scope dV kV doc pm an cdv ct) args binds)
    (hkind : (binds.all fun y => scope.names.lookup y.1 == some .local || scope.names.lookup y.1 == some .cell) = true)
    (h : ∀ s₁, InCallC s s.heap.objs.size (bindL (envOfC qual scope s.heap.objs.size f cdv).kindOf binds fun _ => none) (cellsFrom (s.heap.objs.size + 1) scope.names [])
        (bindC (envOfC qual scope s.heap.objs.size f cdv).kindOf binds fun _ => none) s₁ →
      wpAny (model prog w) (A.deeper (envOfC qual scope s.heap.objs.size f cdv)) (execs body (envOfC qual scope s.heap.objs.size f cdv))
        (fun fl s' => R (.ok (.ret (match fl with | .ret v => v | _ => .none))) s')
        (fun e s' => wpAny (model prog w) (A.deeper (envOfC qual scope s.heap.objs.size f cdv)) (leaving (envOfC qual scope s.heap.objs.size f cdv) e) (fun _ s'' => R (.error e) s'') (fun e' s'' => R (.error e') s'') s') s₁)
    (hco : scope.isCoroutine = false) (hgen : scope.isGenerator = false) (hk : scope.kind = .function) : codeAny (model prog w) A (.call (.ref f) args) R s := by
  refine codeAny_call_function hroom (X _ _ ho) rfl hco hgen rfl (codeRec_of X hcd) (hbind _ _ _ _ ?_)
  refine wpAny_newFunctionEnv_cells hk (kindsX hkind _) fun env he s₁ x => ?_
  subst he
  exact ⟨hlim.keeps x.toInCall.keep, codeAny_func (h s₁ x)⟩

/-- C(..): dict at size, instance at size + 1, then __init__ -/
theorem make_obj {R : Result → Shared → Prop} {C fI : Addr} {rest : List Value} {kw : List (Str × Value)}
    (X : K.In s.heap) (hm : makesIn K C = true) (hi : findIn K (.ref C) "__init__" = some (some (.ref fI))) (hf : isFn K (.ref fI) = true)
    (h : codeAny (model prog w) (A.under (.builtin "type.__call__" ⟨.ref C :: rest, kw⟩)) (.call (.ref fI) ⟨.ref (s.heap.objs.size + 1) :: rest, kw⟩) (InitBack (s.heap.objs.size + 1) R)
      { s with heap := (s.heap.push emptyDict).push (instObj C s.heap.objs.size) }) : codeAny (model prog w) A (.call (.ref C) ⟨rest, kw⟩) R s := by
  obtain ⟨hh, g, d, t, os⟩ := s
  exact make_core (makes_of X hm) (looks_findIn X hi) (fun self => bind_fn X self (beq_iff_eq.mp hf)) (.inl rfl) h

/-- x.name where the instance's dict holds the name and the class does not -/
theorem get_field {x C : Addr} {ox : Obj} {es : List DictEntry} {n : Nat} {name : Str} {expr : Bool} {v : Value} {Q : Value → Shared → Prop}
    (X : K.In s.heap) (I : PySem.W.InstAt s.heap x ox C (some (dictOf es n))) (hg : plainGet K C name = true) (hh : hasDictIn K C = true) (ha : findIn K (.ref C) name = some none)
    (hl : getL name es = some (some v)) (hv : handedIn v = true) (h : Q v { s with toks := s.toks + 1 }) : wpAny (model prog w) A (getAttr (.ref x) name expr) Q E s :=
  get_value X I (plainGet_of hg).1 (findObj_own hh ha rfl hl) hv h

/-- x.m(..): the method found in the class -/
theorem get_method {x C f : Addr} {ox : Obj} {es : List DictEntry} {n : Nat} {name : Str} {pl : Sem Bool} {Q : Value × List Value → Shared → Prop}
    (X : K.In s.heap) (I : PySem.W.InstAt s.heap x ox C (some (dictOf es n))) (hg : plainGet K C name = true) (hf : findIn K (.ref C) name = some (some (.ref f))) (ht : isFn K (.ref f) = true)
    (hl : getL name es = some none) (h : Q (.ref f, [.ref x]) s) : wpAny (model prog w) A (getMethod (.ref x) name pl) Q E s :=
  method_fn X I (plainGet_of hg).1 (plainGet_of hg).2 hf (beq_iff_eq.mp ht) (by show (lookIn name (dictOf es n)).map _ = _; rw [lookIn_dict, hl]; rfl) h

/-! the whole heap as the ledger: makes every rule that writes through a ledger a rule over any heap -/
def noObjs (h : Heap) : Heap := { h with objs := #[] }
theorem noObjs_get (h : Heap) (b : Addr) : (noObjs h).get? b = none := by
  cases e : (noObjs h).get? b with
  | none => rfl
  | some o => exact absurd (Heap.lt_size e) (Nat.not_lt_zero _)
def ledger (h : Heap) (L d : Addr) : List (Addr × Obj) := (List.range h.objs.size).filterMap fun a => if a = L ∨ a = d then none else (h.get? a).map fun o => (a, o)
theorem mem_ledger {h : Heap} {L d a : Addr} {o : Obj} : (a, o) ∈ ledger h L d ↔ a ≠ L ∧ a ≠ d ∧ h.get? a = some o := by
  unfold ledger
  rw [List.mem_filterMap]
  constructor
  · rintro ⟨b, _, e⟩
    split at e
    · cases e
    · rename_i hb
      obtain ⟨o', ho, e'⟩ := Option.map_eq_some_iff.mp e
      cases e'
      exact ⟨fun q => hb (.inl q), fun q => hb (.inr q), ho⟩
  · rintro ⟨n1, n2, ho⟩
    refine ⟨a, List.mem_range.mpr (Heap.lt_size ho), ?_⟩
    rw [if_neg (show ¬ (a = L ∨ a = d) from fun q => q.elim n1 n2), ho] <;> rfl
theorem news_ledger {h : Heap} {L d : Addr} {od : Obj} (hne : d ≠ L) (ho : h.get? d = some od) : News (noObjs h) L h ([] ++ (d, od) :: ledger h L d) := by
  rintro ⟨a, o⟩ hp
  rcases List.mem_cons.mp hp with e | hp
  · cases e
    exact ⟨ho, hne, noObjs_get _ _⟩
  · obtain ⟨n1, n2, e⟩ := mem_ledger.mp hp
    exact ⟨e, n1, noObjs_get _ _⟩
theorem fr_all {h : Heap} {L : Addr} {m : Str → Option Value} (n : h.Ns L m) : Fr (noObjs h) L h m :=
  ⟨n, fun b o e => (by rw [noObjs_get] at e; cases e), Nat.zero_le _⟩
/-- Upd of the head entry (for append_K, setItem_K ..) -/
theorem upd_ledger {h : Heap} {L d : Addr} {o o' : Obj} : Upd d o o' ((d, o) :: ledger h L d) ((d, o') :: ledger h L d) :=
  .head fun ⟨_, _⟩ hp => (mem_ledger.mp hp).2.1

/-- x.name = v over any heap: L is any namespace of the heap (the frame's, say): its map stays, its object is not told; all else but the dict stays -/
theorem set_field {x C dx L : Addr} {ox : Obj} {m : Str → Option Value} {es es' : List DictEntry} {n n' : Nat} {name : Str} {v : Value} {Q : Unit → Shared → Prop}
    (X : K.In s.heap) (I : PySem.W.InstAt s.heap x ox C (some (dictOf es n))) (hd : ox.dict = some dx) (hL : s.heap.Ns L m) (hne : dx ≠ L)
    (hs : findIn K (.ref C) "__setattr__" = some (some (.builtin "object.__setattr__"))) (hp : plainOver K C = true) (ht : takerIn K C name = some none) (hh : hasDictIn K C = true) (hl : (getL name es).isSome = true)
    (e : (putL name (PyData.keyHash w.params name) (.str name (s.toks + 1)) v es, putN name es n) = (es', n')) (hz : es'.length ≤ 1000)
    (h : ∀ h' : Heap, h'.Ns L m → h'.get? dx = some (dictOf es' n') → (∀ b o, b ≠ dx → b ≠ L → s.heap.get? b = some o → h'.get? b = some o) → Q () { s with heap := h', toks := s.toks + 2 }) :
    wpAny (model prog w) A (setAttr (.ref x) name v) Q E s := by
  obtain ⟨e1, e2⟩ := Prod.mk.inj e
  have hdx : s.heap.get? dx = some (dictOf es n) := by
    have := I.dict
    rw [hd] at this
    exact this
  refine set_plain X I hs (osa_dict (s := { s with toks := s.toks + 1 }) (h₀ := noObjs s.heap) (L := L) (m := m) (od := dictOf es n) (od' := dictOf es' n') (es := es') (n := n') (pre := []) (post := ledger s.heap L dx)
    (fr_all hL) (news_ledger hne hdx) X I hd hp ht hh hl (fun _ q => nomatch q) (fun ⟨_, _⟩ q => (mem_ledger.mp q).2.1) (by rw [putName_dict, e1, e2]) rfl hz fun h' F' N' => ?_)
  exact h h' F'.ns (N'.get (List.Mem.head _)) fun b o n1 n2 ho => N'.get (List.Mem.tail _ (mem_ledger.mpr ⟨n2, n1, ho⟩))
end
end Att

namespace L2
open PySem PySem.Spec PyProof.Rows

theorem vals_ints : ∀ {vs : List Value} {ns : List Int}, IntsAre vs ns → Vals (ns.map V.int) vs
  | _, _, .nil => .nil
  | _, _, .cons n t h => .cons ⟨t, rfl⟩ (vals_ints h)

/-- nothing is tracked but the script, known to the object (or it is an object of the module) -/
def Only (H : Hp) : Prop := ∀ b, H b = none ∨ ∃ o xs, H b = some (.frz o (.lst xs))

/-- THE HEAD: the law's promise, at the heap behind the top. F, the promise of the law's def, may use that base is part of the heap (so K.In base, base.Ns mainGlobals mg stand in Mod) -/
theorem law_call {P : Program} {w : World} {K : PySem.W.Frag} {mg mb : Str → Option Value} {CX : CXT} {k : Nat} {fa a : Addr} {fd : FuncData} {x : Str} {sp : Sp} {s₁ : Shared} {vs : List Value} {ns : List Int}
    (KX : K.In s₁.heap) (hns : s₁.heap.Ns mainGlobals mg) (hb : s₁.heap.Ns builtinsNs mb) (hbb : ∀ x : Str, x ≠ "__name__" → mb x = bootBuiltins x) (hlim : s₁.heap.NoLimit) (hg : s₁.gens = #[])
    (ha : s₁.heap.get? a = some { cls := .type "list", data := .seq vs.toArray }) (hi : IntsAre vs ns) (hl : ns.length ≤ sizeLine) (hr : Room k callerA)
    (F : ∀ base : Heap, K.In base → base.Ns mainGlobals mg → FnOk P w K mg base CX k fa fd [x] sp) (hbind : ∀ (s : Shared) (u : Value), BindsTo s fd ⟨[u], []⟩ [(x, u)])
    (hsp : ∀ H : Hp, Only H → SqL K H a (ns.map V.int) → sp [.ref a] H (fun v _ => v = .bl true) fun _ _ _ => False)
    (hCX : ∀ H e s', CX [] H s₁ (fun _ _ _ => False) e s' → False) :
    codeAny (model P w) callerA (.call (.ref fa) ⟨[.ref a], []⟩) (fun r s' => r = .ok (.ret (.bool true)) ∧ OldK s₁.heap s'.heap ∧ s'.os = s₁.os ∧ AllBare s'.gens) s₁ := by
  have rv := vals_ints hi
  have lenV := hi.length
  -- from an abstract heap in which nothing but the script may be tracked
  have core : ∀ H : Hp, Only H → SqL K H a (ns.map V.int) → HOk P w H s₁.heap → (∀ b, H b ≠ none → b = a) → (H a ≠ none → K.lookup a = none) →
      codeAny (model P w) callerA (.call (.ref fa) ⟨[.ref a], []⟩) (fun r s' => r = .ok (.ret (.bool true)) ∧ OldK s₁.heap s'.heap ∧ s'.os = s₁.os ∧ AllBare s'.gens) s₁ := by
    intro H hO hS hok hA hK
    have base_of : ∀ {b : Addr} {o : Obj}, s₁.heap.get? b = some o → H b = none → (hidT s₁.heap H).get? b = some o := fun e n => hidT_get e n
    have noA : ∀ {b : Addr} {o : Obj} {es : Array DictEntry} {ep : Nat}, s₁.heap.get? b = some o → o.data = .dict es ep → H b = none := fun {b o es ep} e d => by
      cases q : H b with
      | none => rfl
      | some u =>
        have e' : b = a := hA b (by rw [q]; simp)
        subst e'
        rw [ha] at e; cases e
        have d' : Data.seq vs.toArray _ = Data.dict es ep := d
        cases d'
    have nsK : ∀ {b : Addr} {m : Str → Option Value}, s₁.heap.Ns b m → (hidT s₁.heap H).Ns b m := fun {b m} ⟨o, es, ep, e, d, r⟩ => ⟨o, es, ep, base_of e (noA e d), d, r⟩
    have hKb : K.In (hidT s₁.heap H) := fun b o e => base_of (KX b o e) (by
      cases q : H b with
      | none => rfl
      | some u =>
        have e' : b = a := hA b (by rw [q]; simp)
        subst e'
        rw [hK (by rw [q]; simp)] at e; cases e)
    have hM : Mod K mg (hidT s₁.heap H) := ⟨hKb, nsK hns, ⟨mb, nsK hb, hbb⟩, let ⟨mc, h1, h2⟩ := hlim; ⟨mc, nsK h1, h2⟩⟩
    have e0 : Env0 P w K mg (hidT s₁.heap H) callerA [] s₁ H := ⟨rfl, hM, fun b o e => of_hidT e, Nat.le_of_eq (hidT_size _ _), trivial, fun b hb => absurd (show b ∈ ([] : List Addr) from hb) (by simp), hok, .of_eq hg⟩
    refine codeAny_mono ((F _ hKb (nsK hns)).run callerA [] s₁ H ⟨[.ref a], []⟩ [.ref a] [.ref a] _ _ hr e0 (hbind s₁ (.ref a)) (.cons rfl .nil) (hsp H hO hS)) fun r s' h => ?_
    cases r with
    | error e => exact (hCX H e s' h).elim
    | ok fl =>
      cases fl with
      | next => exact False.elim h
      | brk => exact False.elim h
      | cont => exact False.elim h
      | ret u =>
        obtain ⟨v, H', os, bare, un, hok', r', q⟩ := h
        have q' : v = .bl true := q
        subst q'
        obtain rfl : u = Value.bool true := r'
        refine ⟨rfl, OldK.of_keep fun b o e => ?_, os, bare⟩
        cases q : H b with
        | none => exact un.keep b o e q (by intro z; exact absurd (show b ∈ ([] : List Addr) from z) (by simp)) (by simp)
        | some u =>
          rcases hO b with z | ⟨ob, xs, z⟩
          · rw [q] at z; cases z
          · have z2 := un.frzs b ob _ z
            obtain ⟨e1, _⟩ := hok b _ z
            obtain ⟨e2, _⟩ := hok' b _ z2
            rw [e] at e1; cases e1
            exact e2
  cases hk : K.lookup a with
  | some o =>
    -- the script is one of the module's own objects
    have e := KX a o hk
    rw [ha] at e
    cases e
    refine core (fun _ => none) (fun _ => .inl rfl) (.inr ⟨_, vs.toArray, _, hk, rfl, rfl, rfl, by rw [List.size_toArray, lenV]; exact hl, by simpa using rv⟩) (fun b u z => by have z' : (none : Option HO) = some u := z; cases z') (fun b z => absurd rfl z) fun z => absurd rfl z
  | none =>
    refine core (fun b => if b = a then some (.frz { cls := .type "list", data := .seq vs.toArray } (.lst (ns.map V.int))) else none) (fun b => ?_) (.inl (.inr ⟨{ cls := .type "list", data := .seq vs.toArray }, if_pos rfl⟩)) (fun b u z => ?_) (fun b z => ?_) fun _ => hk
    · by_cases hb : b = a
      · exact .inr ⟨_, _, if_pos hb⟩
      · exact .inl (if_neg hb)
    · by_cases hb : b = a
      · have z' := (if_pos hb).symm.trans z
        cases z'
        subst hb
        exact ⟨ha, by rw [List.length_map]; exact hl, vs, _, rv, ha⟩
      · have z' := (if_neg hb).symm.trans z
        cases z'
    · by_cases hb : b = a
      · exact hb
      · exact absurd (if_neg hb) z
end L2

namespace L2
open PySem PySem.Spec PyProof.Rows

abbrev KOf {K : PySem.W.Frag} {h : Heap} (_ : K.In h) : PySem.W.Frag := K

/-- the goal that k_head leaves (case hc), from the law's promise. F gives the function object fd (K's own) once, then the promise over every base -/
theorem walk_of {l : PySem.W.OpenLaw} {n k : Nat} {q : Program} {loose : List Str} {XP : (Str → Option Value) → Heap → Prop} {YP : World → Heap → Prop} {d : DefRec} {K : Params → PySem.W.Frag} {CX : World → CXT} {sp : World → Sp} {x : Str}
    (hn : l.most = some n) (hn2 : n ≤ sizeLine) (hdf : d.params.defaults = []) (hr : Room k callerA)
    (hY : ∀ (w : World) (h : Heap), YP w h → (K w.params).In h)
    (F : ∀ (w : World) (mg : Str → Option Value) (fa : Addr) (h : Heap), (K w.params).In h → h.Ns mainGlobals mg → mg d.name = some (.ref fa) →
      ∃ fd : FuncData, (∀ (s : Shared) (u : Value), BindsTo s fd ⟨[u], []⟩ [(x, u)]) ∧
        ∀ base : Heap, (K w.params).In base → base.Ns mainGlobals mg → FnOk l.prog w (K w.params) mg base (CX w) k fa fd [x] (sp w))
    (hsp : ∀ (w : World) (H : Hp) (a : Addr) (ns : List Int), ns.length ≤ n → Only H → SqL (K w.params) H a (ns.map V.int) → sp w [.ref a] H (fun v _ => v = .bl true) fun _ _ _ => False)
    (hCX : ∀ (w : World) (H : Hp) (s : Shared) (e : Value) (s' : Shared), CX w [] H s (fun _ _ _ => False) e s' → False) :
    PySem.W.WalkO q loose XP YP l.row.toRowW d [] (fun f vs => PySem.call f vs) := by
  refine Att.attach_call hn hdf fun w s₀ s₁ mg mb fa o pm cd doc a vs ns G Y ho hd hcd hmg hobj hints hlen hg => ?_
  have KX := hY w _ Y
  obtain ⟨fd, hb, hF⟩ := F w mg fa _ KX G.T.g hmg
  exact law_call KX G.T.g G.T.b G.T.builtins G.T.nolimit hg hobj hints (Nat.le_trans hlen hn2) hr hF hb (fun H hO hS => hsp w H a ns hlen hO hS) fun H e s' => hCX w H s₁ e s'
/-- the same where the promise hangs on the written part alone: (sp := My.sp_law), no hole under a binder -/
theorem walk_ofK {l : PySem.W.OpenLaw} {n k : Nat} {q : Program} {loose : List Str} {XP : (Str → Option Value) → Heap → Prop} {YP : World → Heap → Prop} {d : DefRec} {K : Params → PySem.W.Frag} {CX : CXT} {sp : PySem.W.Frag → Sp} {x : Str}
    (hn : l.most = some n) (hn2 : n ≤ sizeLine) (hdf : d.params.defaults = []) (hr : Room k callerA)
    (hY : ∀ (w : World) (h : Heap), YP w h → (K w.params).In h)
    (F : ∀ (w : World) (mg : Str → Option Value) (fa : Addr) (h : Heap), (K w.params).In h → h.Ns mainGlobals mg → mg d.name = some (.ref fa) →
      ∃ fd : FuncData, (∀ (s : Shared) (u : Value), BindsTo s fd ⟨[u], []⟩ [(x, u)]) ∧
        ∀ base : Heap, (K w.params).In base → base.Ns mainGlobals mg → FnOk l.prog w (K w.params) mg base CX k fa fd [x] (sp (K w.params)))
    (hsp : ∀ (K : PySem.W.Frag) (H : Hp) (a : Addr) (ns : List Int), ns.length ≤ n → Only H → SqL K H a (ns.map V.int) → sp K [.ref a] H (fun v _ => v = .bl true) fun _ _ _ => False)
    (hCX : ∀ (H : Hp) (s : Shared) (e : Value) (s' : Shared), CX [] H s (fun _ _ _ => False) e s' → False) :
    PySem.W.WalkO q loose XP YP l.row.toRowW d [] (fun f vs => PySem.call f vs) :=
  walk_of (K := K) (CX := fun _ => CX) (sp := fun w => sp (K w.params)) hn hn2 hdf hr hY F (fun w H a ns h1 h2 h3 => hsp (K w.params) H a ns h1 h2 h3) fun _ H s e s' => hCX H s e s'
end L2

/- THE LAST THEOREM (shape; LID, My.* are yours):
   My.Adr: a structure of the addresses that your layer names (classes, functions); My.Txt K t: a structure (Prop) of the equations over K;
   My.txt_mk : {K} {implicit addresses ..} (e1 : nsIn K mainGlobals "law" = some (some (.ref f))) (e2 : K.lookup f = some ⟨oc, od, .func (fnOf "law" "law" params body scope dV kV doc pm an cdv ct), sl⟩) (e3 : codeIn K cdv "law" = true) .. : ∃ t, My.Txt K t

set_option maxRecDepth 100000 in
set_option maxHeartbeats 0 in
theorem PySem.Challenge.cw_LID_holds : PySem.Challenge.rw_LID.Holds := by
  w_on; o_law; k_head; (case hw => w_witness2)
  k_fill
  refine L2.walk_of (l := PySem.Challenge.rw_LID) (n := 63) (k := 40) (x := "script") (CX := fun w => ..) (sp := fun _ => My.sp_law) rfl (by decide) rfl ⟨rfl, by decide, by decide⟩ (fun w h Y => PySem.W.kIn_of Y) ?F ?S ?C
  case F =>
    intro w mg fa h KX G hmg
    have T : ∃ t, My.Txt (L2.KOf KX) t := by
      dsimp only [L2.KOf]                          -- K must stand as «<heap const> w.params» for k_is
      refine' My.txt_mk ?e1 ?e2 ?e3 ..
      (case e1 => PySem.W.k_is)                    -- in the order: a name -> its address -> its object -> its parts
      (case e2 => PySem.W.k_is)
      ..
    obtain ⟨t, T⟩ := T
    have e0 := hmg.symm.trans (PySem.W.mg_of KX G T.law)
    cases e0                                       -- fa is the law's own address
    exact ⟨_, fun s u => .of_eq rfl, fun base kb nb => My.law_fn T kb nb⟩     -- if «.of_eq rfl» comes too early: refine' ⟨_, ?b, fun base kb nb => My.law_fn T kb nb⟩; exact fun s u => .of_eq rfl
  case S => exact fun w H a ns hl hO hS => ..
  case C => exact ..
(the tactic k_is has no namespace: write k_is) -/

/-! SHORT WORDS over the layer: a def of the text, its body, what a loop and a test want. -/
namespace L2
open PySem PySem.Spec PyProof.Rows

/-! ### the text by places -/
/-- the j-th statement of a class's body -/
def inClass (s : Stmt) (j : Nat) : Stmt := match s with
  | .ClassDef _ _ _ body _ _ _ _ _ _ _ => body.getD j (.Pass ⟨0, 0, 0, 0⟩)
  | _ => .Pass ⟨0, 0, 0, 0⟩
def defArgs (s : Stmt) : Arguments := match s with
  | .FunctionDef _ a _ _ _ _ _ _ _ _ => a
  | _ => { posonlyargs := [], args := [], vararg := none, kwonlyargs := [], kw_defaults := [], kwarg := none, defaults := [] }
def defBody (s : Stmt) : List Stmt := match s with
  | .FunctionDef _ _ b _ _ _ _ _ _ _ => b
  | _ => []
def defScope (s : Stmt) : Scope := match s with
  | .FunctionDef _ _ _ _ _ _ sc _ _ _ => sc
  | _ => { kind := .function, names := [], isGenerator := false, isCoroutine := false }

/-! ### no exception leaves a def -/
abbrev CX0 : CXT := fun _ _ _ _ _ _ => False
abbrev E0 : XK := fun _ _ _ => False
theorem pass0 {X : Cx} : Passes CX0 X E0 := fun _ _ _ _ _ _ _ h => h.elim

/-! ### a def (or method) of the text as it stands behind the top -/
structure Fun (K : PySem.W.Frag) (x qual : Str) (st : Stmt) (f : Addr) (fd : FuncData) : Prop where
  ex : ∃ (oc : Value) (od : Option Addr) (kV doc pm : Value) (an : Option Addr) (cdv ct : Value) (osl : Array (Option Value)),
    fd = PySem.W.fnOf x qual (defArgs st) (defBody st) (defScope st) .none kV doc pm an cdv ct ∧ K.lookup f = some ⟨oc, od, .func fd, osl⟩ ∧ PySem.W.codeIn K cdv qual = true
  kp : PySem.W.keepIn K (.ref f) = true
section
variable {P : Program} {w : World} {K : PySem.W.Frag} {mg : Str → Option Value} {base : Heap}
/-- THE RULE for a def: its body as a term of rules, and the reading of that term -/
theorem Fun.ok {x qual : Str} {st : Stmt} {f : Addr} {fd : FuncData} {N ps : List Str} {k : Nat} {sp : Sp} (F : Fun K x qual st f fd) (S : FnScope N ps (defScope st)) (len : ∀ vs H Q E, sp vs H Q E → vs.length = ps.length)
    (hbody : ∀ (cdv : Value) (A : Around) (outer : List Env) (s : Shared) (H : Hp) (vs : List V) (Q : VK) (E : XK), Room k (A.deeper (envOfC qual (defScope st) s.heap.objs.size f cdv)) → sp vs H Q E →
      ∃ t, PSs (cxOf CX0 P w K mg base N qual (defScope st) f cdv A outer s H E).nox (defBody st) t ∧ t { nx := fun _ H' => Q .non H', rt := Q } (start N vs) H) : FnOk P w K mg base CX0 (k + 1) f fd ps sp := by
  obtain ⟨oc, od, kV, doc, pm, an, cdv, ct, osl, rfl, lk, hcd⟩ := F.ex
  refine fn_of lk hcd S len fun A outer s H vs Q E hr hsp => ?_
  obtain ⟨t, h, q⟩ := hbody cdv A outer s H vs Q E hr hsp
  exact ⟨t, h.nox, q⟩
/-- how its arguments bind (no defaults): h is «fun _ _ _ _ _ _ us hl => match us, hl with | [_, _], _ => rfl», one _ a parameter -/
theorem Fun.binds {x qual : Str} {st : Stmt} {f : Addr} {fd : FuncData} {ps : List Str} (F : Fun K x qual st f fd)
    (h : ∀ (kV doc pm : Value) (an : Option Addr) (cdv ct : Value) (us : List Value), us.length = ps.length → bindArgs (PySem.W.fnOf x qual (defArgs st) (defBody st) (defScope st) .none kV doc pm an cdv ct) ⟨us, []⟩ = pure (ps.zip us)) : Binds K fd ps [] := by
  obtain ⟨oc, od, kV, doc, pm, an, cdv, ct, osl, rfl, lk, hcd⟩ := F.ex
  exact .all (h kV doc pm an cdv ct)
theorem fun_mk {x qual : Str} {st : Stmt} {f : Addr} {oc : Value} {od an : Option Addr} {osl : Array (Option Value)} {kV doc pm cdv ct : Value} (l : K.lookup f = some ⟨oc, od, .func (PySem.W.fnOf x qual (defArgs st) (defBody st) (defScope st) .none kV doc pm an cdv ct), osl⟩)
    (c : PySem.W.codeIn K cdv qual = true) (k : PySem.W.keepIn K (.ref f) = true) : Fun K x qual st f (PySem.W.fnOf x qual (defArgs st) (defBody st) (defScope st) .none kV doc pm an cdv ct) := ⟨⟨oc, od, kV, doc, pm, an, cdv, ct, osl, rfl, l, c⟩, k⟩
end
theorem hu_of {A : Around} {k : Nat} (hr : Room k A) : A.units + 1 < cLine := Nat.lt_of_le_of_lt (Nat.add_le_add_left (by decide : 1 ≤ 64) _) hr.units
theorem small1000 {n : Nat} (h : n ≤ 1000) : n < sizeLine := Nat.lt_of_le_of_lt h (by decide)

/-! ### expressions in short: the name that stands in the i-th slot -/
section
variable {X : Cx}
theorem pv (i : Nat) {x : Str} {pos : Pos} (hN : X.N[i]? = some x := by rfl) (hv : Vis X.env.scope x := by first | exact Or.inl rfl | exact Or.inr (Or.inl rfl) | exact Or.inr (Or.inr rfl)) (hd : (x == ("__debug__" : Str)) = false := by decide)
    (hcd : (x == ("__classdict__" : Str)) = false := by decide) : PE X (.Name x pos) (tVar i) := pe_var hN hv hd hcd
end

/-! ### tests -/
theorem iteF {A B : Prop} (h : B) : if false = true then A else B := by
  rw [if_neg Bool.false_ne_true]
  exact h
theorem iteT {A B : Prop} (h : A) : if true = true then A else B := by
  rw [if_pos rfl]
  exact h
theorem ite2 {c A B : Prop} [Decidable c] (h1 : c → A) (h2 : ¬ c → B) : if c then A else B := by
  by_cases h : c
  · rw [if_pos h]
    exact h1 h
  · rw [if_neg h]
    exact h2 h
theorem iteNS {c A B : Prop} [Decidable c] (hc : c) (h : B) : if (!decide c) = true then A else B := by
  rw [decide_eq_true hc]
  exact iteF h

/-! ### heaps -/
/-- all that was tracked is as it was -/
def Same (H H' : Hp) : Prop := ∀ b o, H b = some o → H' b = some o
theorem Same.refl (H : Hp) : Same H H := fun _ _ h => h
theorem Same.trans {H H1 H2 : Hp} (a : Same H H1) (b : Same H1 H2) : Same H H2 := fun c o h => b c o (a c o h)
theorem Same.free {H H' : Hp} (e : Same H H') {l : Addr} (h : H' l = Option.none) : H l = Option.none := by
  cases q : H l with
  | none => rfl
  | some o =>
    rw [e l o q] at h
    cases h
theorem Same.seq {K : PySem.W.Frag} {H H' : Hp} {a : Addr} {xs : List V} (e : Same H H') (h : SqL K H a xs) : SqL K H' a xs := by
  rcases h with (h | ⟨o, h⟩) | h
  · exact .inl (.inl (e _ _ h))
  · exact .inl (.inr ⟨o, e _ _ h⟩)
  · exact .inr h

end L2
/-! OWN RULES over the hand layer: list comprehensions -/
namespace L2
open PySem PySem.Spec PyProof.Rows

theorem wpAny_unpure {α β : Type} {M : Model} {A : Around} {a : α} {Q : α → Shared → Prop} {E : Value → Shared → Prop} {s : Shared} {t2 : Sem β} {Q2 : β → Shared → Prop} {E2 : Value → Shared → Prop}
    (h : wpAny M A (pure a : Sem α) Q E s) (k : Q a s → wpAny M A t2 Q2 E2 s) : wpAny M A t2 Q2 E2 s := fun Γ p hΓ => k (h Γ p hΓ) Γ p hΓ

/-- the tests of a comprehension's clause -/
def PTs (X : Cx) (ifs : List Expr) (t : TT) : Prop :=
  ∀ (pins : List (Addr × Obj)) (s : Shared) (σ : St) (H : Hp) (Q : Bool → Hp → Prop), Inv X pins σ H s → t σ H Q →
    wpAny (model X.prog X.w) X.A (forIn ifs true fun c r => if r = true then do let ok ← isTrue c X.env (eval c X.env); pure (ForInStep.yield ok) else pure (ForInStep.yield r)) (TP X pins σ Q) X.xe s
def tNoTest : TT := fun _ H Q => Q true H
theorem pts_nil {X : Cx} : PTs X [] tNoTest := fun _ _ _ H _ I h => wpAny_tests_nil ⟨H, I, h⟩
theorem pts_one {X : Cx} {c : Expr} {t : TT} (h : PT X c t) : PTs X [c] t := fun pins s σ H Q I hq => wpAny_tests_one (h pins s σ H Q I hq)

/-- the closure of a comprehension's block -/
def clOf (cells : List (Str × Addr)) (names : List (Str × NameKind)) (acc : List (Str × Addr)) : List (Str × Addr) :=
  match names with
  | [] => acc
  | (n, k) :: r => clOf cells r (if k == .free then (n, (cells.lookup n).getD 0) :: acc else acc)
theorem closure_loop {env : Env} : ∀ (names : List (Str × NameKind)) (acc : List (Str × Addr)), (∀ y ∈ names, y.2 = .free → ∃ c, env.cells.lookup y.1 = some c) →
    (forIn names acc fun (x : Str × NameKind) (r : List (Str × Addr)) => if (x.2 == .free) = true then (do let a ← cellOf env x.1; pure (ForInStep.yield ((x.1, a) :: r)) : Sem (ForInStep (List (Str × Addr)))) else pure (ForInStep.yield r)) = (pure (clOf env.cells names acc) : Sem (List (Str × Addr)))
  | [], acc, _ => rfl
  | (n, k) :: r, acc, h => by
    have ih := closure_loop (env := env) r
    rw [List.forIn_cons]
    by_cases hk : (k == NameKind.free) = true
    · obtain ⟨c, hc⟩ := h (n, k) List.mem_cons_self (by simpa using hk)
      have hc' : cellOf env n = pure c := by unfold cellOf; rw [hc]
      dsimp only
      rw [if_pos hk, hc']
      have e : clOf env.cells ((n, k) :: r) acc = clOf env.cells r ((n, c) :: acc) := by
        show clOf env.cells r (if (k == NameKind.free) = true then (n, (env.cells.lookup n).getD 0) :: acc else acc) = _
        rw [if_pos hk, hc]; rfl
      rw [e, ← ih ((n, c) :: acc) fun y hy => h y (List.mem_cons_of_mem _ hy)]
      rfl
    · dsimp only
      rw [if_neg hk]
      have e : clOf env.cells ((n, k) :: r) acc = clOf env.cells r acc := by
        show clOf env.cells r (if (k == NameKind.free) = true then (n, (env.cells.lookup n).getD 0) :: acc else acc) = _
        rw [if_neg hk]
      rw [e, ← ih acc fun y hy => h y (List.mem_cons_of_mem _ hy)]
      rfl
theorem closureFor_some {scope : Scope} {env : Env} (h : ∀ y ∈ scope.names, y.2 = .free → ∃ c, env.cells.lookup y.1 = some c) : closureFor scope env = pure (clOf env.cells scope.names []) := by
  unfold closureFor
  have e := closure_loop (env := env) scope.names [] h
  first
    | exact e
    | (simp only [bind_pure_comp, map_pure] at *; exact e)
    | (rw [← e]; simp)
theorem clOf_mem {cells : List (Str × Addr)} : ∀ (names : List (Str × NameKind)) (acc : List (Str × Addr)) (p : Str × Addr), (∀ y ∈ names, y.2 = .free → ∃ c, cells.lookup y.1 = some c) → p ∈ clOf cells names acc → p ∈ acc ∨ (cells.lookup p.1 = some p.2 ∧ (p.1, NameKind.free) ∈ names)
  | [], acc, p, _, h => .inl h
  | (n, k) :: r, acc, p, hn, h => by
    have h' : p ∈ clOf cells r (if (k == NameKind.free) = true then (n, (cells.lookup n).getD 0) :: acc else acc) := h
    rcases clOf_mem r _ p (fun y hy => hn y (List.mem_cons_of_mem _ hy)) h' with q | ⟨q1, q2⟩
    · by_cases hk : (k == NameKind.free) = true
      · rw [if_pos hk] at q
        rcases List.mem_cons.mp q with e | q
        · have hk' : k = .free := by simpa using hk
          obtain ⟨c, hc⟩ := hn (n, k) List.mem_cons_self hk'
          subst e
          refine .inr ⟨?_, ?_⟩
          · show cells.lookup n = some ((cells.lookup n).getD 0)
            have hc' : cells.lookup n = some c := hc
            rw [hc']; rfl
          · rw [← hk']; exact List.mem_cons_self
        · exact .inl q
      · rw [if_neg hk] at q
        exact .inl q
    · exact .inr ⟨q1, List.mem_cons_of_mem _ q2⟩
theorem clOf_has {cells : List (Str × Addr)} : ∀ (names : List (Str × NameKind)) (acc : List (Str × Addr)) (n : Str), ((n, NameKind.free) ∈ names ∨ ∃ c, (n, c) ∈ acc) → ∃ c, (n, c) ∈ clOf cells names acc
  | [], acc, n, h => by
    rcases h with h | h
    · cases h
    · exact h
  | (m, k) :: r, acc, n, h => by
    show ∃ c, (n, c) ∈ clOf cells r (if (k == NameKind.free) = true then (m, (cells.lookup m).getD 0) :: acc else acc)
    refine clOf_has r _ n ?_
    rcases h with h | ⟨c, h⟩
    · rcases List.mem_cons.mp h with e | h
      · injection e with e1 e2
        subst e1; subst e2
        exact .inr ⟨_, by rw [if_pos (show (NameKind.free == NameKind.free) = true from rfl)]; exact List.mem_cons_self⟩
      · exact .inl h
    · refine .inr ⟨c, ?_⟩
      split
      · exact List.mem_cons_of_mem _ h
      · exact h
theorem lookup_of_mem {α : Type} {n : Str} {c : α} : ∀ {l : List (Str × α)}, (n, c) ∈ l → ∃ d, l.lookup n = some d ∧ (n, d) ∈ l
  | (m, d) :: r, h => by
    by_cases e : n = m
    · subst e
      exact ⟨d, by simp [List.lookup_cons], List.mem_cons_self⟩
    · rcases List.mem_cons.mp h with q | q
      · injection q with q1 _
        exact absurd q1 e
      · obtain ⟨d', h1, h2⟩ := lookup_of_mem q
        refine ⟨d', ?_, List.mem_cons_of_mem _ h2⟩
        rw [List.lookup_cons]
        have : (n == m) = false := beq_eq_false_iff_ne.mpr e
        rw [this]; exact h1

/-- the scope of a comprehension: its variable x, the captured names ns, which stand at the places caps of the names around -/
structure CompScope (N : List Str) (sc scope : Scope) (x : Str) (caps : List Nat) (ns : List Str) : Prop where
  cell : ∀ y ∈ scope.names, y.2 ≠ .cell
  kind : scope.kind = .function
  names : ∀ y ∈ scope.names, y.2 = .local → scope.names.lookup y.1 = some .local
  var : scope.names.lookup x = some .local
  free : ∀ y ∈ scope.names, y.2 = .free → sc.names.lookup y.1 = some .cell ∨ sc.names.lookup y.1 = some .free
  at_ : caps.map (fun j => N[j]?) = ns.map some
  nsf : ∀ y ∈ ns, scope.names.lookup y = some .free
  nd : (x :: ns).Nodup

/-- the block's context -/
def Cx.comp (X : Cx) (N' : List Str) (scope : Scope) (cl : List (Str × Addr)) (C : Addr) (s : Shared) (H : Hp) (fp : List Addr) : Cx :=
  { X with N := N', s₀ := s, H₀ := H, env := compEnvC scope cl C X.env, outer := X.stack, ex := fp, fn := fun _ => false, xe := fun _ _ => False }

def capσ (caps : List Nat) (σ : St) (v : Option V) : St := v :: caps.map fun j => (σ[j]?).getD none

/-- a comprehension's reading -/
def tCompR (wi : TI) (caps : List Nat) (tt : TT) (te : TE) (σ : St) (H : Hp) (R : List V → Hp → Prop) : Prop := wi σ H fun J H1 => ∃ W : Nat → Nat → List V → Hp → Prop, (∃ m, W 0 m [] H1) ∧ ∀ i m ys H, W i m ys H →
  ys.length ≤ sizeLine ∧ ((J.stop i H ∧ R ys H) ∨ (J.go i H ∧ ∃ N : List V → Hp → Prop, (∀ ys' H', N ys' H' → ∃ m', m' < m ∧ W (i + 1) m' ys' H') ∧ ∀ v H', J.yld i H v H' → tt (capσ caps σ (some v)) H' fun b H2 =>
    if b = true then te (capσ caps σ (some v)) H2 fun y H3 => N (ys ++ [y]) H3 else N ys H2))
def tComp (wi : TI) (caps : List Nat) (tt : TT) (te : TE) : TE := fun σ H Q => tCompR wi caps tt te σ H fun ys H1 => ∀ D, H1 D = none → Q (.ref D) (upd H1 D (.lst ys))

theorem kindOf_relabel {scope : Scope} {env : Env} {y : Str} (h : ((relabel scope env).names.lookup y = some .cell ∨ (relabel scope env).names.lookup y = some .free)) (hc : ∀ y ∈ scope.names, y.2 ≠ .cell) : (y, NameKind.free) ∈ scope.names := by
  have h' : ∃ k, (k = .cell ∨ k = .free) ∧ (y, k) ∈ (relabel scope env).names := by
    rcases h with h | h
    · exact ⟨_, .inl rfl, PySem.mem_of_lookup h⟩
    · exact ⟨_, .inr rfl, PySem.mem_of_lookup h⟩
  obtain ⟨k, hk, hm⟩ := h'
  unfold relabel at hm
  obtain ⟨⟨n, k0⟩, hm0, e⟩ := List.mem_map.mp hm
  dsimp only at e
  split at e
  · rename_i hcond
    injection e with e1 e2
    subst e1
    have : k0 = .free := by
      simp only [Bool.and_eq_true] at hcond
      simpa using hcond.1.1
    subst this
    exact hm0
  · injection e with e1 e2
    subst e1; subst e2
    rcases hk with rfl | rfl
    · exact absurd rfl (hc _ hm0)
    · exact hm0
theorem lookup_relabel_free {env : Env} : ∀ {names : List (Str × NameKind)} {x : Str}, names.lookup x = some .free →
    (names.map fun (n, k) => if (k == NameKind.free && env.scope.kind == .function && env.kindOf n == some .cell) then (n, NameKind.cell) else (n, k)).lookup x = some .cell ∨
    (names.map fun (n, k) => if (k == NameKind.free && env.scope.kind == .function && env.kindOf n == some .cell) then (n, NameKind.cell) else (n, k)).lookup x = some .free
  | [], _, h => by simp at h
  | (n, k) :: r, x, h => by
    have ih := @lookup_relabel_free env r x
    show (List.lookup x ((if (k == NameKind.free && env.scope.kind == .function && env.kindOf n == some .cell) = true then (n, NameKind.cell) else (n, k)) :: _) = _) ∨ (List.lookup x ((if (k == NameKind.free && env.scope.kind == .function && env.kindOf n == some .cell) = true then (n, NameKind.cell) else (n, k)) :: _) = _)
    cases hx : x == n with
    | true =>
      simp only [List.lookup_cons, hx] at h
      cases h
      split
      · left; simp [List.lookup_cons, hx]
      · right; simp [List.lookup_cons, hx]
    | false =>
      simp only [List.lookup_cons, hx] at h
      by_cases hc : (k == NameKind.free && env.scope.kind == .function && env.kindOf n == some .cell) = true
      · rw [if_pos hc]; simp only [List.lookup_cons, hx]; exact ih h
      · rw [if_neg hc]; simp only [List.lookup_cons, hx]; exact ih h

section
variable {X : Cx}
theorem comp_core {x : Str} {px : Pos} {iter elt : Expr} {ifs : List Expr} {scope : Scope} {pos pos' : Pos} {wi : TI} {tt : TT} {te : TE} {caps : List Nat} {ns : List Str} {use : Option (Value → Sem Unit)} {Q : Value → Shared → Prop}
    {pins : List (Addr × Obj)} {s : Shared} {σ : St} {H : Hp} {R : List V → Hp → Prop}
    (CS : CompScope X.N X.env.scope scope x caps ns) (hc : X.calm = true) (hi : PI X (.Name x px) iter wi)
    (ht : ∀ cl C s H fp, PTs (X.comp (x :: ns) scope cl C s H fp) ifs tt) (he : ∀ cl C s H fp, PE (X.comp (x :: ns) scope cl C s H fp) elt te)
    (hs : ∀ v, foldedSetIterable iter X.env v = pure v)
    (I : Inv X pins σ H s) (h : tCompR wi caps tt te σ H R)
    (hend : ∀ D C s' H' ys, Inv X pins σ (upd H' D (.lst ys)) s' → H' D = none → R ys H' → (∃ m, s'.heap.Ns C m) → (upd H' D (.lst ys)) C = none → C ≠ X.env.locals → X.s₀.heap.objs.size ≤ C → (∀ y c, X.env.cells.lookup y = some c → c ≠ C) → (∀ p ∈ X.pn ++ pins, p.1 ≠ C) →
      compPost (model X.prog X.w) X.A X.xe use Q (.ref D) C (.ok .next) s') :
    wpAny (model X.prog X.w) X.A (comprehension (.ListComp elt [⟨.Name x px, iter, ifs, 0⟩] scope pos) scope X.env pos' (newList []) false (eval iter X.env) use) Q X.xe s := by
  have hcells : ∀ y ∈ scope.names, y.2 = .free → ∃ c, X.env.cells.lookup y.1 = some c := fun y hy hf => I.ok.has y.1 (CS.free y hy hf)
  refine wpAny_comprehension_free (use := use) rfl hs (closureFor_some hcells) CS.kind CS.names ?_
  refine thn (hi pins s σ H _ I h) fun v s1 h1 => thn h1 fun itv s2 h2 => ?_
  obtain ⟨it, fp, tn, J, H2, e, I2, T, st2, f2, W, ⟨m0, w0⟩, turn⟩ := h2
  subst e
  refine wpAny_newObj_type (wpAny_newFunctionEnv CS.cell (by intro y hy; simp at hy) (fun h₁ hns₁ hsb₁ => ?_) CS.kind)
  dsimp only at hns₁ hsb₁ ⊢
  generalize hHH : s2.heap.push { cls := .type "list", dict := none, data := .seq ([] : List Value).toArray } = HH at hns₁ hsb₁ ⊢
  have hC : HH.objs.size = s2.heap.objs.size + 1 := by rw [← hHH, Heap.size_push]
  generalize hCe : HH.objs.size = C at hns₁ hsb₁ hC ⊢
  have hDC : s2.heap.objs.size ≠ C := by rw [hC]; exact Nat.ne_of_lt (Nat.lt_succ_self _)
  have below : ∀ b, b < s2.heap.objs.size → b ≠ C ∧ b ≠ s2.heap.objs.size := fun b hb => ⟨by rw [hC]; exact Nat.ne_of_lt (Nat.lt_succ_of_lt hb), Nat.ne_of_lt hb⟩
  have old : ∀ b o, s2.heap.get? b = some o → h₁.get? b = some o := fun b o e => hsb₁.extBut b o (below b (Heap.lt_size e)).1 (Heap.get?_push_of_some _ (hHH ▸ Heap.get?_push_of_some _ e))
  have hacc : h₁.get? s2.heap.objs.size = some (LCg.lst []) := hsb₁.extBut _ _ hDC (Heap.get?_push_of_some _ (hHH ▸ Heap.get?_push_size _ rfl))
  have nfp : ∀ b ∈ fp, b < s2.heap.objs.size := fun b hb => let ⟨o, e, _⟩ := T.obj _ _ st2 b hb; Heap.lt_size e
  -- the closure's cells are the cells around
  have clsub : ∀ y c, (clOf X.env.cells scope.names []).lookup y = some c → X.env.cells.lookup y = some c := fun y c e => by
    rcases clOf_mem scope.names [] (y, c) hcells (PySem.mem_of_lookup e) with q | q
    · cases q
    · exact q.1
  have fresh2 : ∀ a, s2.heap.objs.size ≤ a → H2 a = none := fun a ha => I2.hok.fresh ha
  generalize hcl : clOf X.env.cells scope.names [] = cl at clsub ⊢
  have clhas : ∀ y, (y, NameKind.free) ∈ scope.names → ∃ c, cl.lookup y = some c := fun y hy => by
    obtain ⟨c, q⟩ := clOf_has (cells := X.env.cells) scope.names [] y (.inl hy)
    rw [hcl] at q
    obtain ⟨d, q1, _⟩ := lookup_of_mem q
    exact ⟨d, q1⟩
  have ltC : ∀ y c, X.env.cells.lookup y = some c → c < s2.heap.objs.size := fun y c e => let ⟨v, z⟩ := I2.cell y c e; z.lt
  have ok' : (X.comp (x :: ns) scope cl C s2 H2 fp).Ok := by
    refine ⟨I2.ok.mod, CS.kind, I2.ok.glob, I2.ok.blt, (by show s2.heap.objs.size ≤ C; rw [hC]; exact Nat.le_succ _), fun y z c a b => I2.ok.inj y z c (clsub y c a) (clsub z c b), fun y hy => clhas y (kindOf_relabel hy CS.cell), fun y c z => (by cases z), I2.ok.hd, I2.ok.frames, .inl rfl,
      fun b hb => ⟨(below b (nfp b hb)).1, fun y c e z => (f2 b hb).2.2.2.2.1 y c (clsub y c e) z⟩, fun b o e => I2.bs b o e, Nat.le_trans I2.ok.bsz I2.sz, fun b o e hb => ?_, fun b hb hf => ?_, I2.stack, I2.stkFree⟩
    · rcases (f2 b hb).2.2.2.1 with z | z
      · exact I2.ok.noex b o e z
      · exact absurd (Nat.lt_of_lt_of_le (Heap.lt_size e) (Nat.le_trans I2.ok.bsz z)) (Nat.lt_irrefl _)
    · rcases List.mem_cons.mp (I2.stkSub b hf) with z | z
      · exact (f2 b hb).2.1 z
      · exact (f2 b hb).2.2.1 z
  have capget : ∀ (k : Nat) (y : Str) (v : V), (x :: ns)[k]? = some y → (capσ caps σ none)[k]? = some (some v) → ∃ j, X.N[j]? = some y ∧ σ[j]? = some (some v) ∧ scope.names.lookup y = some .free := fun k y v e1 e2 => by
    cases k with
    | zero => cases e2
    | succ k =>
      have e1' : ns[k]? = some y := by simpa using e1
      have e2' : (caps.map fun j => (σ[j]?).getD none)[k]? = some (some v) := by simpa [capσ] using e2
      have e3 : (ns.map some)[k]? = some (some y) := by rw [List.getElem?_map, e1']; rfl
      rw [← CS.at_, List.getElem?_map] at e3
      rw [List.getElem?_map] at e2'
      cases hj : caps[k]? with
      | none => rw [hj] at e3; cases e3
      | some j =>
        rw [hj] at e3 e2'
        have e4 : X.N[j]? = some y := Option.some.inj e3
        have e5 : (σ[j]?).getD none = some v := Option.some.inj e2'
        refine ⟨j, e4, ?_, CS.nsf y (List.mem_of_getElem? e1')⟩
        cases hσ : σ[j]? with
        | none => rw [hσ] at e5; cases e5
        | some z => rw [hσ] at e5; have e6 : z = some v := e5; rw [e6]
  have visfree : ∀ y, scope.names.lookup y = some .free → X.env.kindOf y = some .cell ∨ X.env.kindOf y = some .free := fun y hy => CS.free (y, .free) (PySem.mem_of_lookup hy) rfl
  have I0 : Inv (X.comp (x :: ns) scope cl C s2 H2 fp) (pins ++ [(s2.heap.objs.size, LCg.lst [])]) (capσ caps σ none) H2 { s2 with heap := h₁, toks := s2.toks + ([] : List (Str × Value)).length } := by
    obtain ⟨m2, hn2, hl2⟩ := I2.loc
    refine ⟨ok', rfl, I2.bare, Un.kept old, ⟨_, hns₁, fun k y v e1 e2 e3 => ?_⟩, fun y c e => ?_, fresh2 C (by rw [hC]; exact Nat.le_succ _), fun y c e => I2.freeC y c (clsub y c e), fun p hp => ?_, I2.hok.kept old, ?_⟩
    · obtain ⟨j, q1, q2, q3⟩ := capget k y v e1 e2
      have vf := visfree y q3
      obtain ⟨u, ru, lk⟩ := hl2 j y v q1 q2 (vf.elim (fun z => .inr (.inl z)) fun z => .inr (.inr z))
      refine ⟨u, ru, .inr ⟨lookup_relabel_free q3, ?_⟩⟩
      obtain ⟨c, hcl'⟩ := clhas y (PySem.mem_of_lookup q3)
      refine ⟨c, hcl', ?_⟩
      rcases lk with ⟨k1, _⟩ | ⟨_, c', e', z⟩
      · rcases vf with vf | vf <;> (rw [k1] at vf; cases vf)
      · have q := clsub y c hcl'
        rw [e'] at q
        cases q
        exact z.keeps old
    · obtain ⟨v, z⟩ := I2.cell y c (clsub y c e)
      exact ⟨v, z.keeps old⟩
    · rcases List.mem_append.mp hp with hp | hp
      · obtain ⟨a1, a2, a3, a4, a5⟩ := I2.pin p (List.mem_append_left _ hp)
        refine ⟨old _ _ a1, a2, (below _ (Heap.lt_size a1)).1, fun z => ?_, a5⟩
        rcases List.mem_cons.mp (I2.stkSub _ z) with z | z
        · exact a3 z
        · exact a4 z
      · rcases List.mem_append.mp hp with hp | hp
        · obtain ⟨a1, a2, a3, a4, a5⟩ := I2.pin p (List.mem_append_right _ hp)
          refine ⟨old _ _ a1, a2, (below _ (Heap.lt_size a1)).1, fun z => ?_, a5⟩
          rcases List.mem_cons.mp (I2.stkSub _ z) with z | z
          · exact a3 z
          · exact a4 z
        · have e : p = (s2.heap.objs.size, LCg.lst []) := by simpa using hp
          subst e
          refine ⟨hacc, fresh2 _ (Nat.le_refl _), hDC, fun z => ?_, fun v z => by cases z⟩
          rcases List.mem_cons.mp (I2.stkSub _ z) with z | z
          · exact absurd I2.lt (by rw [← z]; exact Nat.lt_irrefl _)
          · exact I2.nofs (Nat.le_refl _) z
    · show (capσ caps σ none).length = (x :: ns).length
      have := congrArg List.length CS.at_
      simp only [List.length_map] at this
      simp [capσ, this]
  have loop : ∀ s₃ : Shared, s₃ = { s2 with heap := h₁, toks := s2.toks + ([] : List (Str × Value)).length } →
      codeAny (model X.prog X.w) X.A (.compLoop (.ListComp elt [⟨.Name x px, iter, ifs, 0⟩] scope pos) 0 (.ref it) (.ref s2.heap.objs.size) (compEnvC scope cl C X.env))
        (compPost (model X.prog X.w) X.A X.xe use Q (.ref s2.heap.objs.size) C) s₃ := by
    rintro s₃ rfl
    refine codeAny_compLoop_tests (fun n s' => ∃ i ys us H', Inv (X.comp (x :: ns) scope cl C s2 H2 fp) (pins ++ [(s2.heap.objs.size, LCg.lst us)]) (capσ caps σ none) H' s' ∧ Vals ys us ∧ tn i s'.heap ∧ (∀ b ∈ fp, H' b = none) ∧ W i n ys H') ?_ m0
      ⟨0, [], [], H2, I0, .nil, T.keep _ _ _ st2 (fun b _ o e => old b o e), fun b hb => (f2 b hb).1, w0⟩
    rintro n s3 ⟨i, ys, us, H3, I3, rv, st3, fr3, w3⟩
    obtain ⟨hle, hstep⟩ := turn i n ys H3 w3
    have pinlt : ∀ p ∈ X.pn ++ pins, p.1 < s2.heap.objs.size := fun p hp => Heap.lt_size (I2.pin p hp).1
    have stat : ∀ {H' : Hp}, (∀ b ∈ fp, H' b = none) → ∀ b ∈ fp, FpOk (X.comp (x :: ns) scope cl C s2 H2 fp) (pins ++ [(s2.heap.objs.size, LCg.lst us)]) H' b := fun hn b hb =>
      ⟨hn b hb, (below b (nfp b hb)).1, ok'.exfs b hb, .inl hb, fun y c e z => (f2 b hb).2.2.2.2.1 y c (clsub y c e) z, fun p hp => by
        rcases List.mem_append.mp hp with hp | hp
        · exact (f2 b hb).2.2.2.2.2 p (List.mem_append_left _ hp)
        · rcases List.mem_append.mp hp with hp | hp
          · exact (f2 b hb).2.2.2.2.2 p (List.mem_append_right _ hp)
          · have e : p = (s2.heap.objs.size, LCg.lst us) := by simpa using hp
            subst e
            exact Ne.symm (below b (nfp b hb)).2⟩
    have memD : ∀ (l : List (Addr × Obj)), (s2.heap.objs.size, LCg.lst us) ∈ (X.comp (x :: ns) scope cl C s2 H2 fp).pn ++ ((pins ++ [(s2.heap.objs.size, LCg.lst us)]) ++ l) := fun l =>
      List.mem_append_right _ (List.mem_append_left _ (List.mem_append_right _ List.mem_cons_self))
    rcases hstep with ⟨stop, r⟩ | ⟨go, Nx, hNx, step⟩
    · refine thn (T.done (X.comp (x :: ns) scope cl C s2 H2 fp) rfl rfl rfl hc i _ s3 _ H3 _ I3 (stat fr3) st3 stop) fun r' s4 ⟨hr, I4⟩ => ?_
      subst hr
      have pD := I4.pin (s2.heap.objs.size, LCg.lst us) (List.mem_append_right _ (List.mem_append_right _ List.mem_cons_self))
      have hDn : H3 s2.heap.objs.size = none := pD.2.1
      have hCn : H3 C = none := I4.free
      have b4 : Un (frs X.stack) fp H2 H3 s2.heap s4.heap := I4.base
      have u4 : Un (frs X.stack) fp H2 (upd H3 s2.heap.objs.size (.lst ys)) s2.heap s4.heap :=
        ⟨b4.keep, b4.slot, fun b o e n hx => by rw [upd_ne (below b (Heap.lt_size e)).2]; exact b4.free b o e n hx, b4.there,
          fun b xs q => by rw [upd_ne (ne_of_none (b4.tups b xs q) hDn)]; exact b4.tups b xs q, fun b o u q => by rw [upd_ne (ne_of_none (b4.frzs b o u q) hDn)]; exact b4.frzs b o u q,
          fun b ps q => by
            obtain ⟨m1, e1⟩ := b4.tbls b ps q
            exact ⟨m1, by rw [upd_ne (ne_of_none e1 hDn)]; exact e1⟩⟩
      have k4 : HOk X.prog X.w (upd H3 s2.heap.objs.size (.lst ys)) s4.heap := fun b u e => by
        by_cases hb : b = s2.heap.objs.size
        · subst hb
          rw [upd_same] at e
          cases e
          exact ⟨hle, us, _, rv, pD.1⟩
        · rw [upd_ne hb] at e
          exact (I4.hok b u e).stay (fun c v _ q => q) (fun c q => by rw [upd_ne (ne_of_none q hDn)]; exact q) fun c xs q => by rw [upd_ne (ne_of_none q hDn)]; exact q
      have J4 : Inv X pins σ (upd H3 s2.heap.objs.size (.lst ys)) s4 := I2.call' (ch := fp) I4.os u4 k4 I4.bare fun b hb => ⟨(f2 b hb).2.2.2.1, (f2 b hb).2.1, (f2 b hb).2.2.2.2.1, (f2 b hb).2.2.2.2.2⟩
      obtain ⟨mC, hnC, _⟩ := I4.loc
      exact hend _ C s4 H3 ys J4 hDn r ⟨mC, hnC⟩ (by rw [upd_ne (Ne.symm hDC)]; exact hCn) (Ne.symm (below _ I2.lt).1) (by rw [hC]; exact Nat.le_succ_of_le I2.sz) (fun y c e => (below c (ltC y c e)).1) fun p hp => (below _ (pinlt p hp)).1
    · refine thn (T.item (X.comp (x :: ns) scope cl C s2 H2 fp) rfl rfl rfl hc i _ s3 _ H3 _ I3 (stat fr3) st3 go) fun r' s4 ⟨u, hr, h4⟩ => ?_
      subst hr
      refine wpAny_unpure h4 fun ⟨v, H5, I5, r5, y5, st5, fr5⟩ => ?_
      have I5' := I5.pinned (stat fr5) (T.obj _ _ st5)
      refine wpAny_assign_Name (store_ok (X := X.comp (x :: ns) scope cl C s2 H2 fp) (i := 0) I5' CS.nd rfl (.inl (lookup_relabel_local CS.var)) r5 (fun s6 I6 => ?_) (.inr (lookup_relabel_local CS.var)))
      have I6' : Inv (X.comp (x :: ns) scope cl C s2 H2 fp) ((pins ++ [(s2.heap.objs.size, LCg.lst us)]) ++ pinsAt fp s4.heap) (capσ caps σ (some v)) H5 s6 := I6
      refine wpAny_mono (ht cl C s2 H2 fp _ s6 _ H5 _ I6' (step v H5 y5)) (fun b s7 ⟨H7, I7, q7⟩ => ?_) (fun _ _ e => e.elim)
      have weak : ∀ {H' : Hp} {s' : Shared} {pl : List (Addr × Obj)}, Inv (X.comp (x :: ns) scope cl C s2 H2 fp) pl (capσ caps σ (some v)) H' s' → Inv (X.comp (x :: ns) scope cl C s2 H2 fp) pl (capσ caps σ none) H' s' := fun {H' s' pl} J' =>
        J'.weak rfl fun k z e => by
          cases k with
          | zero => cases e
          | succ k => exact e
      have keepT : ∀ {H' : Hp} {s' : Shared}, Inv (X.comp (x :: ns) scope cl C s2 H2 fp) ((pins ++ [(s2.heap.objs.size, LCg.lst us)]) ++ pinsAt fp s4.heap) (capσ caps σ (some v)) H' s' → tn (i + 1) s'.heap ∧ ∀ b ∈ fp, H' b = none := fun {H' s'} J' => by
        refine ⟨T.keep _ _ _ st5 fun b hb o e => (J'.pin (b, o) (List.mem_append_right _ (List.mem_append_right _ (mem_pinsAt hb e)))).1, fun b hb => ?_⟩
        obtain ⟨o, e, d⟩ := T.obj _ _ st5 b hb
        exact (J'.pin (b, o) (List.mem_append_right _ (List.mem_append_right _ (mem_pinsAt hb e)))).2.1
      cases b with
      | false =>
        rw [if_neg Bool.false_ne_true] at q7 ⊢
        obtain ⟨m', hm, w7⟩ := hNx _ _ q7
        exact ⟨m', hm, i + 1, ys, us, H7, weak I7.unpinned, rv, (keepT I7).1, (keepT I7).2, w7⟩
      | true =>
        rw [if_pos rfl] at q7 ⊢
        refine wpAny_mono (he cl C s2 H2 fp _ s7 _ H7 _ I7 q7) (fun yv s8 ⟨y, H8, I8, ry, n8⟩ => ?_) (fun _ _ e => e.elim)
        obtain ⟨m', hm, w8⟩ := hNx _ _ n8
        have pD := I8.pin (s2.heap.objs.size, LCg.lst us) (memD _)
        have hul : us.length = ys.length := rv.length.symm
        refine append_at (hsz := by show us.toArray.size ≤ sizeLine; rw [List.size_toArray, hul]; exact hle) pD.1 fun h9 hs9 hD9 => ?_
        have I8p : Inv (X.comp (x :: ns) scope cl C s2 H2 fp) pins (capσ caps σ none) H8 s8 := weak I8.unpinned.unpinned
        have I9 : Inv (X.comp (x :: ns) scope cl C s2 H2 fp) pins (capσ caps σ none) H8 { s8 with heap := h9 } := I8p.turned (t' := s8.toks) (it := s2.heap.objs.size) (fun b o hb e => (hs9.2 b hb).trans e) pD.2.1 hDC (.inr (Nat.le_refl _)) (fun y c e z => Nat.ne_of_lt (ltC y c (clsub y c e)) z) fun p hp => Nat.ne_of_lt (pinlt p hp)
        have I9' : Inv (X.comp (x :: ns) scope cl C s2 H2 fp) (pins ++ [(s2.heap.objs.size, LCg.lst (us ++ [yv]))]) (capσ caps σ none) H8 { s8 with heap := h9 } := I9.pins_of fun p hp => by
          rcases List.mem_append.mp hp with hp | hp
          · exact I9.pin p (List.mem_append_right _ hp)
          · have e : p = (s2.heap.objs.size, LCg.lst (us ++ [yv])) := by simpa using hp
            subst e
            exact ⟨hD9.trans (congrArg some (LCg.lst_snoc us yv)), pD.2.1, hDC, pD.2.2.2.1, fun v z => by cases z⟩
        refine ⟨m', hm, i + 1, ys ++ [y], us ++ [yv], H8, I9', rv.append (.cons ry .nil), ?_, (keepT I8).2, w8⟩
        exact T.keep _ _ _ (keepT I8).1 fun b hb o e => (hs9.2 b (below b (nfp b hb)).2).trans e
  exact codeAny_compStart_list (loop _ rfl) (T.self X.A 0 _ _ _ (T.keep _ _ _ st2 (fun b _ o e => old b o e)) (loop _ rfl))

/-! the forms one uses -/
theorem comp_tup {K : PySem.W.Frag} {a : Addr} {xs : List V} {caps : List Nat} {tt : TT} {te : TE} {σ : St} {H : Hp} {R : List V → Hp → Prop} (Pv : Nat → List V → Hp → Prop) (h0 : Pv 0 [] H) (hl : ∀ i ys H, i ≤ xs.length → Pv i ys H → SqT K H a xs ∧ ys.length ≤ sizeLine)
    (hs : ∀ i x ys H, xs[i]? = some x → Pv i ys H → tt (capσ caps σ (some x)) H fun b H2 => if b = true then te (capσ caps σ (some x)) H2 fun y H3 => Pv (i + 1) (ys ++ [y]) H3 else Pv (i + 1) ys H2) (hd : ∀ ys H, Pv xs.length ys H → R ys H) :
    ∃ W : Nat → Nat → List V → Hp → Prop, (∃ m, W 0 m [] H) ∧ ∀ i m ys H, W i m ys H → ys.length ≤ sizeLine ∧ (((Itt K a).stop i H ∧ R ys H) ∨ ((Itt K a).go i H ∧ ∃ N : List V → Hp → Prop, (∀ ys' H', N ys' H' → ∃ m', m' < m ∧ W (i + 1) m' ys' H') ∧ ∀ v H', (Itt K a).yld i H v H' →
      tt (capσ caps σ (some v)) H' fun b H2 => if b = true then te (capσ caps σ (some v)) H2 fun y H3 => N (ys ++ [y]) H3 else N ys H2)) := by
  refine ⟨fun i m ys H => m = xs.length - i ∧ i ≤ xs.length ∧ Pv i ys H, ⟨xs.length, by simp, Nat.zero_le _, h0⟩, ?_⟩
  rintro i m ys H ⟨rfl, hi, p⟩
  obtain ⟨q, hz⟩ := hl i ys H hi p
  refine ⟨hz, ?_⟩
  by_cases hlt : i < xs.length
  · refine .inr ⟨⟨xs, xs[i], q, by simp [hlt]⟩, Pv (i + 1), fun ys' H' p' => ⟨xs.length - (i + 1), by omega, rfl, hlt, p'⟩, fun x H' y => ?_⟩
    obtain ⟨e, y⟩ := y
    subst e
    exact hs i x ys _ (y xs q) p
  · have e : i = xs.length := by omega
    subst e
    exact .inl ⟨⟨xs, q, Nat.le_refl _⟩, hd ys H p⟩
theorem comp_list {K : PySem.W.Frag} {a : Addr} {xs : List V} {caps : List Nat} {tt : TT} {te : TE} {σ : St} {H : Hp} {R : List V → Hp → Prop} (Pv : Nat → List V → Hp → Prop) (h0 : Pv 0 [] H) (hl : ∀ i ys H, i ≤ xs.length → Pv i ys H → SqL K H a xs ∧ ys.length ≤ sizeLine)
    (hs : ∀ i x ys H, xs[i]? = some x → Pv i ys H → tt (capσ caps σ (some x)) H fun b H2 => if b = true then te (capσ caps σ (some x)) H2 fun y H3 => Pv (i + 1) (ys ++ [y]) H3 else Pv (i + 1) ys H2) (hd : ∀ ys H, Pv xs.length ys H → R ys H) :
    ∃ W : Nat → Nat → List V → Hp → Prop, (∃ m, W 0 m [] H) ∧ ∀ i m ys H, W i m ys H → ys.length ≤ sizeLine ∧ (((Itl K a).stop i H ∧ R ys H) ∨ ((Itl K a).go i H ∧ ∃ N : List V → Hp → Prop, (∀ ys' H', N ys' H' → ∃ m', m' < m ∧ W (i + 1) m' ys' H') ∧ ∀ v H', (Itl K a).yld i H v H' →
      tt (capσ caps σ (some v)) H' fun b H2 => if b = true then te (capσ caps σ (some v)) H2 fun y H3 => N (ys ++ [y]) H3 else N ys H2)) := by
  refine ⟨fun i m ys H => m = xs.length - i ∧ i ≤ xs.length ∧ Pv i ys H, ⟨xs.length, by simp, Nat.zero_le _, h0⟩, ?_⟩
  rintro i m ys H ⟨rfl, hi, p⟩
  obtain ⟨q, hz⟩ := hl i ys H hi p
  refine ⟨hz, ?_⟩
  by_cases hlt : i < xs.length
  · refine .inr ⟨⟨xs, xs[i], q, by simp [hlt]⟩, Pv (i + 1), fun ys' H' p' => ⟨xs.length - (i + 1), by omega, rfl, hlt, p'⟩, fun x H' y => ?_⟩
    obtain ⟨e, y⟩ := y
    subst e
    exact hs i x ys _ (y xs q) p
  · have e : i = xs.length := by omega
    subst e
    exact .inl ⟨⟨xs, q, Nat.le_refl _⟩, hd ys H p⟩
theorem comp_range {lo : Int} {n : Nat} {caps : List Nat} {tt : TT} {te : TE} {σ : St} {H : Hp} {R : List V → Hp → Prop} (Pv : Nat → List V → Hp → Prop) (h0 : Pv 0 [] H) (hl : ∀ i ys H, i ≤ n → Pv i ys H → ys.length ≤ sizeLine)
    (hs : ∀ i ys H, i < n → Pv i ys H → tt (capσ caps σ (some (.int (lo + i)))) H fun b H2 => if b = true then te (capσ caps σ (some (.int (lo + i)))) H2 fun y H3 => Pv (i + 1) (ys ++ [y]) H3 else Pv (i + 1) ys H2) (hd : ∀ ys H, Pv n ys H → R ys H) :
    ∃ W : Nat → Nat → List V → Hp → Prop, (∃ m, W 0 m [] H) ∧ ∀ i m ys H, W i m ys H → ys.length ≤ sizeLine ∧ (((Itr lo n).stop i H ∧ R ys H) ∨ ((Itr lo n).go i H ∧ ∃ N : List V → Hp → Prop, (∀ ys' H', N ys' H' → ∃ m', m' < m ∧ W (i + 1) m' ys' H') ∧ ∀ v H', (Itr lo n).yld i H v H' →
      tt (capσ caps σ (some v)) H' fun b H2 => if b = true then te (capσ caps σ (some v)) H2 fun y H3 => N (ys ++ [y]) H3 else N ys H2)) := by
  refine ⟨fun i m ys H => m = n - i ∧ i ≤ n ∧ Pv i ys H, ⟨n, by simp, Nat.zero_le _, h0⟩, ?_⟩
  rintro i m ys H ⟨rfl, hi, p⟩
  refine ⟨hl i ys H hi p, ?_⟩
  by_cases hlt : i < n
  · refine .inr ⟨hlt, Pv (i + 1), fun ys' H' p' => ⟨n - (i + 1), by omega, rfl, hlt, p'⟩, fun x H' y => ?_⟩
    obtain ⟨e, y⟩ := y
    subst e y
    exact hs i ys _ hlt p
  · have e : i = n := by omega
    subst e
    exact .inl ⟨Nat.le_refl _, hd ys H p⟩

theorem pe_comp {x : Str} {px : Pos} {iter elt : Expr} {ifs : List Expr} {scope sc : Scope} {N : List Str} {pos : Pos} {wi : TI} {tt : TT} {te : TE} {caps : List Nat} {ns : List Str}
    (CS : CompScope N sc scope x caps ns) (hN' : X.N = N) (hsc : X.env.scope = sc) (hc : X.calm = true) (hi : PI X (.Name x px) iter wi)
    (ht : ∀ cl C s H fp, PTs (X.comp (x :: ns) scope cl C s H fp) ifs tt) (he : ∀ cl C s H fp, PE (X.comp (x :: ns) scope cl C s H fp) elt te)
    (hs : ∀ v, foldedSetIterable iter X.env v = pure v := by intro _; rfl) :
    PE X (.ListComp elt [⟨.Name x px, iter, ifs, 0⟩] scope pos) (tComp wi caps tt te) := by
  intro pins s σ H Q I h
  subst hN'; subst hsc
  rw [eval_ListComp]
  refine comp_core CS hc hi ht he hs I h ?_
  rintro D C s' H' ys I' hD r ⟨m, hn⟩ c1 c2 c3 c4 c5
  exact ⟨m, hn, fun h' hs' => ⟨.ref D, _, I'.turned (t' := s'.toks) (fun b o hb e => (hs'.2 b hb).trans e) c1 c2 (.inr c3) c4 c5, rfl, r D hD⟩⟩

/-- y = [.. for ..], y a plain local, on one line -/
theorem ps_setComp {i : Nat} {x y : Str} {px py : Pos} {iter elt : Expr} {ifs : List Expr} {scope sc : Scope} {N : List Str} {pos spos : Pos} {wi : TI} {tt : TT} {te : TE} {caps : List Nat} {ns : List Str} (hN : X.N.Nodup) (hi : X.N[i]? = some y)
    (hy : X.env.scope.names.lookup y = some .local) (CS : CompScope N sc scope x caps ns) (hN' : X.N = N) (hsc : X.env.scope = sc) (hc : X.calm = true) (hit : PI X (.Name x px) iter wi)
    (ht : ∀ cl C s H fp, PTs (X.comp (x :: ns) scope cl C s H fp) ifs tt) (he : ∀ cl C s H fp, PE (X.comp (x :: ns) scope cl C s H fp) elt te)
    (hsw : swapsWith (.ListComp elt [⟨.Name x px, iter, ifs, 0⟩] scope pos) (some (.Name y py)) spos.line X.env = pure true := by rfl)
    (hs : ∀ v, foldedSetIterable iter X.env v = pure v := by intro _; rfl) :
    PS X (.Assign [.Name y py] (.ListComp elt [⟨.Name x px, iter, ifs, 0⟩] scope pos) spos) (tAsg (tComp wi caps tt te) (gName i)) := by
  intro pins s σ H D I h
  subst hN'; subst hsc
  rw [exec_Assign_Name_used _ _ _ _ hsw]
  refine wpAny_bind (wpAny_standAt (wpAny_bind ?_))
  show wpAny _ X.A (do let _ ← comprehension (.ListComp elt [⟨.Name x px, iter, ifs, 0⟩] scope pos) scope X.env _ (newList []) false (eval iter X.env) (some (assign (.Name y py) X.env))) _ _ s
  refine wpAny_bind (wpAny_mono (comp_core (use := some (assign (.Name y py) X.env)) (Q := fun _ s' => SP X pins D .next s') CS hc hit ht he hs I h ?_) (fun _ s' hq => wpAny_pure (wpAny_pure hq)) fun _ _ e => e)
  rintro D' C s' H' ys I' hD r ⟨m, hn⟩ c1 c2 c3 c4 c5
  show wpAny _ _ (assign (.Name y py) X.env (.ref D')) _ _ s'
  refine wpAny_assign_Name (store_ok2 (v := .ref D') I' hN hi (.inl hy) rfl (fun s'' I'' ⟨a, sb, ha⟩ => ?_) (.inr hy))
  have hCa : C ≠ a := by
    rcases ha with e | e
    · rw [e]; exact c2
    · exact Ne.symm (c4 y a e)
  exact ⟨m, hn.sameBut sb hCa, fun h' hs' => ⟨_, _, I''.turned (t' := s''.toks) (fun b o hb e => (hs'.2 b hb).trans e) c1 c2 (.inr c3) c4 c5, r D' hD⟩⟩
end
end L2
/-! OWN RULES over the hand layer: max of a list, texts joined and repeated, a list turned round, lists compared, isinstance, dicts of the module, unions -/
namespace L2
open PySem PySem.Spec PyProof.Rows
/-! ### the names of the built-ins -/
theorem bt_len : bootBuiltins "len" = some (.builtin "len") := by decide +kernel
theorem bt_max : bootBuiltins "max" = some (.builtin "max") := by decide +kernel
theorem bt_min : bootBuiltins "min" = some (.builtin "min") := by decide +kernel
theorem bt_isinstance : bootBuiltins "isinstance" = some (.builtin "isinstance") := by decide +kernel
theorem bt_abs : bootBuiltins "abs" = some (.builtin "abs") := by decide +kernel
theorem bt_ord : bootBuiltins "ord" = some (.builtin "ord") := by decide +kernel
theorem bt_all : bootBuiltins "all" = some (.builtin "all") := by decide +kernel
theorem bt_any : bootBuiltins "any" = some (.builtin "any") := by decide +kernel
theorem bt_sum : bootBuiltins "sum" = some (.builtin "sum") := by decide +kernel
theorem bt_sorted : bootBuiltins "sorted" = some (.builtin "sorted") := by decide +kernel
theorem bt_repr : bootBuiltins "repr" = some (.builtin "repr") := by decide +kernel
theorem bt_list : bootBuiltins "list" = some (.type "list") := by decide +kernel
theorem bt_tuple : bootBuiltins "tuple" = some (.type "tuple") := by decide +kernel
theorem bt_int : bootBuiltins "int" = some (.type "int") := by decide +kernel
theorem bt_bool : bootBuiltins "bool" = some (.type "bool") := by decide +kernel
theorem bt_str : bootBuiltins "str" = some (.type "str") := by decide +kernel
theorem bt_dict : bootBuiltins "dict" = some (.type "dict") := by decide +kernel
section
variable {X : Cx}

theorem call_maxL (hc : X.calm = true) : CallR X (.builtin "max") (fun xs H Q => ∃ (p : Addr) (ns : List Int), xs = [.ref p] ∧ SqL X.K H p (ns.map V.int) ∧ 0 < ns.length ∧ ∀ M : Int, M ∈ ns → (∀ a ∈ ns, a ≤ M) → Q (.int M) H) := by
  intro pins s σ H vs us Q I r h
  obtain ⟨p, ns, rfl, hS, hne, q⟩ := h
  obtain ⟨u, rfl, ru⟩ := vals1 r
  cases ru
  obtain ⟨its, rv, pl, hz⟩ := I.list hS
  have hi : IntsAre its ns := intsAre_of rv
  obtain ⟨xs, e⟩ := hi.allInts.items
  have hns : ns = xs.toList.map (·.1) := by
    rw [← hi.numsOf, ← nums_intItems, ← e]
  have hsz : 0 < xs.size := by
    have h3 := hne; rw [hns, List.length_map, Array.length_toList] at h3; exact h3
  have hl := pl.isList
  rw [e] at hl
  refine max_intList (I.ok.hd hc) hl hsz fun v h' tk hv hk => ?_
  obtain ⟨t, rfl⟩ := intItems_at hv
  obtain ⟨h1, h2⟩ := argBest_gt (numAt xs) (xs.size - 1)
  refine ⟨.int _, H, I.kept hk, ⟨_, rfl⟩, q _ ?_ fun a ha => ?_⟩
  · rw [hns, numAt_eq]; exact getD_mem (by rw [List.length_map, Array.length_toList]; omega)
  · rw [hns] at ha
    obtain ⟨j, hj, rfl⟩ := mem_getD ha
    rw [List.length_map, Array.length_toList] at hj
    rw [← numAt_eq]; exact h2 j (by omega)
theorem call_max (hc : X.calm = true) : CallR X (.builtin "max") (fun xs H Q => (∃ i j, xs = [.int i, .int j] ∧ Q (.int (if j > i then j else i)) H) ∨
    (∃ (p : Addr) (ns : List Int), xs = [.ref p] ∧ SqL X.K H p (ns.map V.int) ∧ 0 < ns.length ∧ ∀ M : Int, M ∈ ns → (∀ a ∈ ns, a ≤ M) → Q (.int M) H)) := (call_max2 hc).or (call_maxL hc)

/-! ### texts -/
theorem op_mul_str : OpR X (binaryOp .Mult) (fun x y H Q => ∃ i n, x = .str i ∧ y = .int n ∧ 0 ≤ n ∧ n ≤ 16777216 ∧ i.length * n.toNat ≤ 16777216 ∧ Q (.str (Txt.mul i n)) H) := by
  intro pins s σ H x y v u Q I rx ry h
  obtain ⟨i, n, rfl, rfl, h0, h1, h2, q⟩ := h
  obtain ⟨t, rfl⟩ := rx
  obtain ⟨t', rfl⟩ := ry
  exact SB.mul (mulOk_of i.length n.toNat (Nat.le_refl _) (by omega) (by omega) (by omega) h2) fun t'' k => ⟨.str _, H, I.tok _, ⟨_, rfl⟩, q⟩
theorem strsAre_of {ys : List Str} : ∀ {us : List Value}, Vals (ys.map V.str) us → StrsAre us ys := by
  induction ys with
  | nil => intro us r; cases r; exact .nil
  | cons y ys ih =>
    intro us r
    cases r with
    | cons r1 r2 =>
      obtain ⟨t, rfl⟩ := r1
      exact .cons y t (ih r2)
def rJoin (K : PySem.W.Frag) : V → List V → Hp → VK → Prop := fun x vs H Q => ∃ (z : Str) (p : Addr) (ys : List Str), x = .str z ∧ vs = [.ref p] ∧ (SqL K H p (ys.map V.str) ∨ SqT K H p (ys.map V.str)) ∧ (ys.map (·.length)).sum + ys.length * z.length ≤ 16777216 ∧ Q (.str (Txt.join z ys)) H
theorem mt_join : MtR X "str.join" (rJoin X.K) := by
  intro pins s σ H x vs v us Q I rx rv h
  obtain ⟨z, p, ys, rfl, rfl, hS, hz, q⟩ := h
  obtain ⟨t, rfl⟩ := rx
  obtain ⟨u, rfl, ru⟩ := vals1 rv
  cases ru
  rcases hS with hS | hS
  · obtain ⟨its, r, pl, _⟩ := I.list hS
    exact join_list pl.isList (by simpa using strsAre_of r) hz fun t' k => ⟨.str _, H, I.tok _, ⟨_, rfl⟩, q⟩
  · obtain ⟨its, r, pl, _⟩ := I.tuple hS
    exact join_tuple pl (by simpa using strsAre_of r) hz fun t' k => ⟨.str _, H, I.tok _, ⟨_, rfl⟩, q⟩

/-! ### xs[::-1] -/
def tRev (K : PySem.W.Frag) (te ts : TE) : TE := fun σ H Q => te σ H fun x H1 => ts σ H1 fun y H2 => y = .int (-1) ∧ ∃ a xs, x = .ref a ∧ SqL K H2 a xs ∧ ∀ p, H2 p = none → Q (.ref p) (upd H2 p (.lst xs.reverse))
theorem pe_rev {e st : Expr} {te ts : TE} {p2 pos : Pos} (he : PE X e te) (hst : PE X st ts) : PE X (.Subscript e (.Slice none none (some st) p2) pos) (tRev X.K te ts) := by
  intro pins s σ H Q I h
  refine Subscript_ (thn (he pins s σ H _ I h) fun v s1 ⟨x, H1, I1, r1, q1⟩ => ?_)
  refine wpAny_Slice (wpAny_pure (wpAny_pure ?_))
  rw [evalPart_some]
  refine thn (hst pins s1 σ H1 _ I1 q1) fun w s3 ⟨y, H3, I3, ry, q3⟩ => ?_
  obtain ⟨ey, a, xs, ex, hS, q⟩ := q3
  subst ey; subst ex
  obtain ⟨tk, rfl⟩ := ry
  cases r1
  have I4 : Inv X pins σ H3 { s3 with heap := s3.heap.push { cls := .type "slice", data := .fields #[.none, .none, .int (-1) tk] } } := I3.kept (t' := s3.toks) fun b ob q => Heap.get?_push_of_some _ q
  obtain ⟨its, r, pl, hz⟩ := I4.list hS
  have hlen := r.length
  show wpAny (model X.prog X.w) X.A (subscriptTail e (.Slice none none (some st) p2) (.ref a) (.ref s3.heap.objs.size)) (EP X pins σ Q) X.xe { s3 with heap := s3.heap.push { cls := .type "slice", data := .fields #[.none, .none, .int (-1) tk] } }
  refine tail_any (ops := [.ref a, .ref s3.heap.objs.size]) pl.isList.typeIs slot_list_getitem.lookup ?_ (by with_unfolding_all rfl)
  refine wpAny_getItem_list_slice (st := some (-1)) pl.isList (Heap.IsSliceOf.new ..) .none .none (.int (-1) tk) (by simp) ?_ (by rw [List.size_toArray] <;> omega)
  rw [PySem.W.krv_pick]
  have hr : Vals xs.reverse its.toArray.toList.reverse := by simpa using r.reverse
  exact ⟨.ref _, _, I4.laid (t' := s3.toks) (o := .lst xs.reverse) (fun b ob q => Heap.get?_push_of_some _ q) (Nat.le_refl _) ⟨by rw [List.length_reverse]; exact hz, _, 0, hr, Heap.get?_push_size _ rfl⟩, rfl, q _ (I4.hok.fresh (Nat.le_refl _))⟩

/-! ### lists compared: item by item the same -/
def plainV : V → Bool
  | .byt _ => false
  | .flt _ => false
  | _ => true
theorem eqAt_same {A : Around} {s : Shared} {x : V} {u v : Value} (r : RelV x u) (r' : RelV x v) (hx : plainV x = true) : SeqAt.EqAt A s u v true := by
  cases x with
  | non => cases r; cases r'; exact SeqAt.EqAt.same _
  | bl b => cases r; cases r'; exact SeqAt.EqAt.same _
  | int i =>
    obtain ⟨t, rfl⟩ := r; obtain ⟨t', rfl⟩ := r'
    have := SeqAt.EqAt.int_int (A := A) (s := s) i t i t'
    simpa using this
  | str i =>
    obtain ⟨t, rfl⟩ := r; obtain ⟨t', rfl⟩ := r'
    have := SeqAt.EqAt.str_str (A := A) (s := s) i t i t'
    simpa using this
  | ref a => cases r; cases r'; exact SeqAt.EqAt.same _
  | ty n => cases r; cases r'; exact SeqAt.EqAt.same _
  | byt b => cases hx
  | flt b => cases hx
theorem vals_same {A : Around} {s : Shared} {xs : List V} {us vs : List Value} (r : Vals xs us) (r' : Vals xs vs) (hx : xs.all plainV = true) (j : Nat) (h1 : j < us.toArray.size) (h2 : j < vs.toArray.size) : SeqAt.EqAt A s us.toArray[j] vs.toArray[j] true := by
  have hj : j < xs.length := by rw [r.length]; simpa using h1
  obtain ⟨u, hu, ru⟩ := r.get (i := j) (x := xs[j]) (by simp [hj])
  obtain ⟨v, hv, rv⟩ := r'.get (i := j) (x := xs[j]) (by simp [hj])
  have e1 : us.toArray[j] = u := by
    have : us[j]? = some us.toArray[j] := by simp
    rw [hu] at this; exact (Option.some.inj this).symm
  have e2 : vs.toArray[j] = v := by
    have : vs[j]? = some vs.toArray[j] := by simp
    rw [hv] at this; exact (Option.some.inj this).symm
  rw [e1, e2]
  have hp := List.all_eq_true.mp hx xs[j] (List.getElem_mem hj)
  exact eqAt_same ru rv hp
def rEqL (K : PySem.W.Frag) (k : Bool) : R2 := fun x y H Q => ∃ a b xs, x = .ref a ∧ y = .ref b ∧ SqL K H a xs ∧ SqL K H b xs ∧ xs.all plainV = true ∧ Q (.bl k) H
theorem op_eqL (hu : X.A.units < cLine) : OpR X (compareOp .Eq) (rEqL X.K true) := by
  intro pins s σ H x y v u Q I rx ry h
  obtain ⟨a, b, xs, rfl, rfl, ha, hb, hp, q⟩ := h
  cases rx; cases ry
  obtain ⟨its, r, pl, _⟩ := I.list ha
  obtain ⟨its2, r2, pl2, _⟩ := I.list hb
  have hl : its.length = its2.length := by rw [← r.length, ← r2.length]
  refine SeqAt.eq_listAt (e := fun _ => true) pl.isList pl2.isList (by simpa using hl) hu (fun j h1 h2 => vals_same r r2 hp j h1 h2) ⟨.bl true, H, I, ?_, q⟩
  have : ((List.range its.toArray.size).all fun _ => true) = true := by simp
  rw [this]; rfl
theorem op_neL (hu : X.A.units < cLine) : OpR X (compareOp .NotEq) (rEqL X.K false) := by
  intro pins s σ H x y v u Q I rx ry h
  obtain ⟨a, b, xs, rfl, rfl, ha, hb, hp, q⟩ := h
  cases rx; cases ry
  obtain ⟨its, r, pl, _⟩ := I.list ha
  obtain ⟨its2, r2, pl2, _⟩ := I.list hb
  have hl : its.length = its2.length := by rw [← r.length, ← r2.length]
  refine SeqAt.RcNeAt.lists (e := fun _ => true) pl.isList pl2.isList (by simpa using hl) hu (fun j h1 h2 => vals_same r r2 hp j h1 h2) X.prog X.w X.xe _ ⟨.bl false, H, I, ?_, q⟩
  have : ((List.range its.toArray.size).all fun _ => true) = true := by simp
  rw [this]; rfl

/-! ### isinstance(x, T) -/
theorem call_isi : CallR X (.builtin "isinstance") (fun xs H Q => ∃ x c t b, xs = [x, .ty c] ∧ TyOf X.K H x t ∧ PySem.W.kitOne X.K t (.type c) = some b ∧ Q (.bl b) H) := by
  intro pins s σ H xs us Q I r h
  obtain ⟨x, c, t, b, rfl, ty, hk, q⟩ := h
  obtain ⟨u, v, rfl, ru, rv⟩ := vals2 r
  cases rv
  exact isinst_ok I ru ty hk fun tk => ⟨.bl b, H, I.tok _, rfl, q⟩

/-! ### a dict of the module, its keys texts -/
structure TopD (w : World) (K : PySem.W.Frag) (a : Addr) (kvs : List (Str × V)) : Prop where
  ex : ∃ (es : Array DictEntry) (n : Nat), K.lookup a = some ⟨.type "dict", none, .dict es n, #[]⟩ ∧ PySem.W.KeysLit w.params es.toList ∧ Paired (fun (p : Str × V) (e : DictEntry) => (∃ t, e.key = .str p.1 t) ∧ RelV p.2 e.val) kvs es.toList
  lo : (a == sysModules) = false
theorem find_paired {x : Str} : ∀ {kvs : List (Str × V)} {es : List DictEntry}, Paired (fun (p : Str × V) (e : DictEntry) => (∃ t, e.key = .str p.1 t) ∧ RelV p.2 e.val) kvs es →
    RelO (kvs.lookup x) ((es.find? fun e => Value.isStrOf x e.key).map (·.val))
  | _, _, .nil => trivial
  | (k, v) :: kvs, e :: es, .cons ⟨⟨t, hk⟩, rv⟩ r => by
    have hk' : e.key = .str k t := hk
    rw [List.lookup_cons, List.find?_cons, hk']
    by_cases hx : x = k
    · subst hx
      have h1 : Value.isStrOf x (.str x t) = true := by simp [Value.isStrOf]
      rw [h1, beq_self_eq_true]
      exact rv
    · have h1 : Value.isStrOf x (.str k t) = false := by
        cases h : Value.isStrOf x (.str k t) with
        | false => rfl
        | true =>
          obtain ⟨t', e'⟩ := Value.isStrOf_shape (x := x) (v := .str k t) h
          injection e' with e1 _
          exact absurd e1.symm hx
      have h2 : (x == k) = false := beq_eq_false_iff_ne.mpr hx
      rw [h1, h2]
      exact find_paired r
theorem TopD.map {w : World} {K : PySem.W.Frag} {a : Addr} {kvs : List (Str × V)} (T : TopD w K a kvs) {prog : Program} {h : Heap} (KX : K.In h) :
    ∃ f : Str → Option Value, h.MapOf (strKind prog w) a f ∧ ∀ x, RelO (kvs.lookup x) (f x) := by
  obtain ⟨es, n, hl, hk, hp⟩ := T.ex
  refine ⟨fun k => findBy Value.isStrOf es k, PySem.W.mapOf_K KX hl hk, fun x => ?_⟩
  have q := find_paired (x := x) hp
  show RelO (List.lookup x kvs) ((es.find? fun e => Value.isStrOf x e.key).map (·.val))
  rw [← Array.find?_toList]
  exact q
def rIxTop (w : World) (K : PySem.W.Frag) : R2 := fun x y H Q => ∃ a k kvs v, x = .ref a ∧ y = .str k ∧ TopD w K a kvs ∧ kvs.lookup k = some v ∧ Q v H
theorem ix_top : IxR X (rIxTop X.w X.K) := by
  intro value slice pins s σ H x y v u Q I rx ry h hs
  obtain ⟨a, k, kvs, z, rfl, rfl, T, hz, q⟩ := h
  cases rx
  obtain ⟨t, rfl⟩ := ry
  obtain ⟨f, hm, hf⟩ := T.map (prog := X.prog) I.kIn
  have hr := hf k
  rw [hz] at hr
  obtain ⟨w', e, r⟩ := hr.some_of
  exact tail_any hm.typeIs slot_dict_getitem.lookup (wpAny_getItem_of (strKind_is X.prog X.w k t) hm e ⟨z, H, I.tok _, r, q⟩) hs
theorem op_in_top : OpR X (compareOp .In) (fun x y H Q => ∃ k a kvs, x = .str k ∧ y = .ref a ∧ TopD X.w X.K a kvs ∧ Q (.bl (kvs.lookup k).isSome) H) := by
  intro pins s σ H x y v u Q I rx ry h
  obtain ⟨k, a, kvs, rfl, rfl, T, q⟩ := h
  cases ry
  obtain ⟨t, rfl⟩ := rx
  obtain ⟨f, hm, hf⟩ := T.map (prog := X.prog) I.kIn
  have hr := hf k
  have e : (f k).isSome = (kvs.lookup k).isSome := by
    cases h1 : kvs.lookup k with
    | none => rw [h1] at hr; rw [hr.none_of]; rfl
    | some z => rw [h1] at hr; obtain ⟨w', e, _⟩ := hr.some_of; rw [e]; rfl
  exact wpAny_in_of (strKind_is X.prog X.w k t) T.lo hm ⟨.bl _, H, I.tok _, by rw [e]; rfl, q⟩

/-! ### unions -/
theorem uAdd : OpR X (binaryOp .Add) (fun x y H Q => rI0 (fun i j => .int (i + j)) x y H Q ∨ (∃ i j, x = .str i ∧ y = .str j ∧ i.length + j.length ≤ sizeLine ∧ Q (.str (i ++ j)) H) ∨ rCat x y H Q) := op_add.or (op_add_str.or op_cat)
theorem uMul : OpR X (binaryOp .Mult) (fun x y H Q => rI CMul (fun i j => .int (i * j)) x y H Q ∨ (∃ i n, x = .str i ∧ y = .int n ∧ 0 ≤ n ∧ n ≤ 16777216 ∧ i.length * n.toNat ≤ 16777216 ∧ Q (.str (Txt.mul i n)) H) ∨ rRep x y H Q) := op_mul.or (op_mul_str.or op_rep)
theorem uEq (hu : X.A.units < cLine) : OpR X (compareOp .Eq) (fun x y H Q => rEq x y H Q ∨ rEqL X.K true x y H Q) := op_eq.or (op_eqL hu)
theorem uNe (hu : X.A.units < cLine) : OpR X (compareOp .NotEq) (fun x y H Q => rNe x y H Q ∨ rEqL X.K false x y H Q) := op_ne.or (op_neL hu)
theorem uIn : OpR X (compareOp .In) (fun x y H Q => (∃ i j, x = .str i ∧ y = .str j ∧ Q (.bl (!(Builtin.Str.occurrences j i 0 j.length 1).isEmpty)) H) ∨ rIn X.K false x y H Q ∨ (∃ k a kvs, x = .str k ∧ y = .ref a ∧ TopD X.w X.K a kvs ∧ Q (.bl (kvs.lookup k).isSome) H)) := op_in_str.or (op_in_seq.or op_in_top)
theorem uNotIn : OpR X (compareOp .NotIn) (fun x y H Q => (∃ i j, x = .str i ∧ y = .str j ∧ Q (.bl (!(!(Builtin.Str.occurrences j i 0 j.length 1).isEmpty))) H) ∨ rIn X.K true x y H Q) := op_notIn_str.or op_notIn_seq
theorem ix_any : IxR X (fun x y H Q => rIxL X.K x y H Q ∨ rIxT X.K x y H Q ∨ rIxS x y H Q ∨ rIxTop X.w X.K x y H Q) := ix_list.or (ix_tup.or (ix_str.or ix_top))
theorem sl_any : SlR X (fun x lo hi H Q => rSlL X.K x lo hi H Q ∨ rSlT X.K x lo hi H Q) := sl_list.or sl_tup

/-- an assertion behind a statement -/
def tCut (t : TS) : TS := fun D σ H => ∃ R : St → Hp → Prop, t { D with nx := R } σ H ∧ ∀ σ' H', R σ' H' → D.nx σ' H'
theorem ps_cut {st : Stmt} {t : TS} (h : PS X st t) : PS X st (tCut t) := fun pins s σ H D I ⟨R, q, hR⟩ => thn (h pins s σ H _ I q) fun f s' hs => by
  cases f with
  | next => obtain ⟨σ', H', I', r⟩ := hs; exact ⟨σ', H', I', hR σ' H' r⟩
  | brk => exact hs
  | cont => exact hs
  | ret v => exact hs
end
end L2
/-! THE SAME RULES with the module's part K (and the world w) written out, so that a reading within a comprehension names nothing of the block's own context -/
namespace L2
open PySem PySem.Spec PyProof.Rows
section
variable {X : Cx} {K : PySem.W.Frag} {w : World}
theorem kEq (hu : X.A.units < cLine) (hK : X.K = K := by rfl) : OpR X (compareOp .Eq) (fun x y H Q => rEq x y H Q ∨ rEqL K true x y H Q) := by subst hK; exact uEq hu
theorem kNe (hu : X.A.units < cLine) (hK : X.K = K := by rfl) : OpR X (compareOp .NotEq) (fun x y H Q => rNe x y H Q ∨ rEqL K false x y H Q) := by subst hK; exact uNe hu
theorem kIn (hK : X.K = K := by rfl) (hw : X.w = w := by rfl) : OpR X (compareOp .In) (fun x y H Q => (∃ i j, x = .str i ∧ y = .str j ∧ Q (.bl (!(Builtin.Str.occurrences j i 0 j.length 1).isEmpty)) H) ∨ rIn K false x y H Q ∨ (∃ k a kvs, x = .str k ∧ y = .ref a ∧ TopD w K a kvs ∧ Q (.bl (kvs.lookup k).isSome) H)) := by
  subst hK; subst hw; exact uIn
theorem kNotIn (hK : X.K = K := by rfl) : OpR X (compareOp .NotIn) (fun x y H Q => (∃ i j, x = .str i ∧ y = .str j ∧ Q (.bl (!(!(Builtin.Str.occurrences j i 0 j.length 1).isEmpty))) H) ∨ rIn K true x y H Q) := by subst hK; exact uNotIn
theorem kIx (hK : X.K = K := by rfl) (hw : X.w = w := by rfl) : IxR X (fun x y H Q => rIxL K x y H Q ∨ rIxT K x y H Q ∨ rIxS x y H Q ∨ rIxTop w K x y H Q) := by subst hK; subst hw; exact ix_any
theorem kSl (hK : X.K = K := by rfl) : SlR X (fun x lo hi H Q => rSlL K x lo hi H Q ∨ rSlT K x lo hi H Q) := by subst hK; exact sl_any
theorem k_len (hK : X.K = K := by rfl) : CallR X (.builtin "len") (fun xs H Q => ∃ x n, xs = [x] ∧ LenV K x H n ∧ Q (.int n) H) := by subst hK; exact call_len
theorem k_list (hK : X.K = K := by rfl) : CallR X (.type "list") (fun xs H Q => ∃ p ys, xs = [.ref p] ∧ (SqL K H p ys ∨ SqT K H p ys) ∧ ∀ l, H l = none → Q (.ref l) (upd H l (.lst ys))) := by subst hK; exact call_list_of
theorem k_tuple (hK : X.K = K := by rfl) : CallR X (.type "tuple") (fun xs H Q => ∃ p ys, xs = [.ref p] ∧ ((SqL K H p ys ∧ ∀ l, H l = none → Q (.ref l) (upd H l (.tup ys))) ∨ SqT K H p ys ∧ Q (.ref p) H)) := by subst hK; exact call_tuple_of
theorem k_max (hc : X.calm = true) (hK : X.K = K := by rfl) : CallR X (.builtin "max") (fun xs H Q => (∃ i j, xs = [.int i, .int j] ∧ Q (.int (if j > i then j else i)) H) ∨
    (∃ (p : Addr) (ns : List Int), xs = [.ref p] ∧ SqL K H p (ns.map V.int) ∧ 0 < ns.length ∧ ∀ M : Int, M ∈ ns → (∀ a ∈ ns, a ≤ M) → Q (.int M) H)) := by subst hK; exact call_max hc
theorem k_isi (hK : X.K = K := by rfl) : CallR X (.builtin "isinstance") (fun xs H Q => ∃ x c t b, xs = [x, .ty c] ∧ TyOf K H x t ∧ PySem.W.kitOne K t (.type c) = some b ∧ Q (.bl b) H) := by subst hK; exact call_isi
theorem k_join (hK : X.K = K := by rfl) : MtR X "str.join" (rJoin K) := by subst hK; exact mt_join
variable {o e st l c : Expr} {es : List Expr} {to te ts tl : TE} {t : TA} {name : Str} {apos cpos pos p2 : Pos} {T id : String} {r : V → List V → Hp → VK → Prop} {tg : Expr}
theorem k_bm0 (pa : PlainAttrs T) (slot : Slot T name id) (hty : typeOf (.builtin id) = pure (.type "method_descriptor")) (hm : MtR X id r) (ho : PE X o to) (hK : X.K = K := by rfl)
    (hbase : attributeBase o name X.env (eval o X.env) = eval o X.env := by rfl) (hline : (apos.endLine == cpos.line) = true := by rfl) : PE X (.Call (.Attribute o name apos) [] [] cpos) (tBM0 K T r to) := by
  subst hK; exact pe_bm0 pa slot hty hm ho hbase hline
theorem k_bm (pa : PlainAttrs T) (slot : Slot T name id) (hty : typeOf (.builtin id) = pure (.type "method_descriptor")) (hm : MtR X id r) (ho : PE X o to) (ha : PA X (e :: es) t) (hK : X.K = K := by rfl)
    (hbase : attributeBase o name X.env (eval o X.env) = eval o X.env := by rfl)
    (hfew : ((backTo cpos (starEach (e :: es) X.env)).all (fun x => !x.1) && (backToKw cpos (keywordEach [] X.env)).all (fun x => x.1.isSome)
      && decide ((e :: es).length + ([] : List Keyword).length + (if ([] : List Keyword).isEmpty then 0 else 1) < 30)) = true := by rfl)
    (hline : (apos.endLine == cpos.line) = true := by rfl) (hs : starEach (e :: es) X.env = (false, eval e X.env) :: starEach es X.env := by rfl) (hplain : (backTo cpos (starEach es X.env)).any (·.1) = false := by rfl) :
    PE X (.Call (.Attribute o name apos) (e :: es) [] cpos) (tBM K T r to t) := by
  subst hK; exact pe_bm pa slot hty hm ho ha hbase hfew hline hs hplain
theorem k_ilist (hl : PE X l tl) (hK : X.K = K := by rfl) : PI X tg l (iList K tl) := by subst hK; exact pi_list hl
theorem k_itup (hl : PE X l tl) (hK : X.K = K := by rfl) : PI X tg l (iTup K tl) := by subst hK; exact pi_tup hl
theorem k_rev (he : PE X e te) (hst : PE X st ts) (hK : X.K = K := by rfl) : PE X (.Subscript e (.Slice none none (some st) p2) pos) (tRev K te ts) := by subst hK; exact pe_rev he hst
def tTru (K : PySem.W.Frag) (ta : TE) : TT := fun σ H Q => ta σ H fun x H' => ∃ k, TruV K x H' k ∧ Q k H'
theorem k_truth (ha : PE X e te) (he : ∀ whole, isTrue e X.env whole = (do let v ← whole; standAt e.pos; holding [v] (truthy v))) (hK : X.K = K := by rfl) : PT X e (tTru K te) := by subst hK; exact pt_truth ha he
end
theorem noTest {σ : St} {H : Hp} {A B : Hp → Prop} (h : A H) : tNoTest σ H (fun b H2 => if b = true then A H2 else B H2) := by
  show if true = true then A H else B H
  rw [if_pos rfl]; exact h
/-- a test that is decided and leaves the heap as it is -/
def Dec (t : TT) (σ : St) (H : Hp) (b : Bool) : Prop := ∀ Q : Bool → Hp → Prop, Q b H → t σ H Q
theorem Dec.and {t u : TT} {σ : St} {H : Hp} {a b : Bool} (h : Dec t σ H a) (h' : Dec u σ H b) : Dec (tAnd t u) σ H (a && b) := fun Q q => h _ (by
  cases a with
  | true => rw [if_pos rfl]; exact h' Q q
  | false => rw [if_neg Bool.false_ne_true]; exact q)
theorem Dec.or {t u : TT} {σ : St} {H : Hp} {a b : Bool} (h : Dec t σ H a) (h' : Dec u σ H b) : Dec (tOr t u) σ H (a || b) := fun Q q => h _ (by
  cases a with
  | true => rw [if_pos rfl]; exact q
  | false => rw [if_neg Bool.false_ne_true]; exact h' Q q)
theorem Dec.not {t : TT} {σ : St} {H : Hp} {a : Bool} (h : Dec t σ H a) : Dec (tNot t) σ H (!a) := fun Q q => h _ q
/-! ### a display of texts -/
def strsOf : List Expr → Option (List Str)
  | [] => some []
  | .Constant (.str x) _ _ :: r => (strsOf r).map (x :: ·)
  | _ => none
def tStrs (zs : List Str) : TA := fun _ H Q => Q (zs.map V.str) H
theorem pa_strs {X : Cx} : ∀ {es : List Expr} {zs : List Str}, strsOf es = some zs → PA X es (tStrs zs)
  | [], zs, h => by
    have e : zs = [] := by cases h; rfl
    subst e
    exact pa_nil
  | e :: r, zs, h => by
    have hx : ∃ x a b, e = .Constant (.str x) a b ∧ ∃ ys, strsOf r = some ys ∧ zs = x :: ys := by
      unfold strsOf at h
      split at h
      · rename_i h1; cases h1
      · rename_i x a b r' h1
        injection h1 with h1 h2
        subst h1; subst h2
        cases q : strsOf r with
        | none => rw [q] at h; cases h
        | some ys => rw [q] at h; cases h; exact ⟨x, a, b, rfl, ys, rfl, rfl⟩
      · cases h
    obtain ⟨x, a, b, rfl, ys, hr, rfl⟩ := hx
    exact pa_cons pe_str (pa_strs hr)
/-! ### cuts -/
theorem cut_from (xs : List V) (k : Nat) : cutV xs (some (k : Int)) none = xs.drop k := by
  unfold cutV
  rw [HT.sIx_nat, HT.sIx_none]
  by_cases h : k ≤ xs.length
  · rw [Nat.min_eq_left h, List.take_of_length_le (by simp)]
  · rw [Nat.min_eq_right (by omega), List.drop_eq_nil_of_le (Nat.le_refl _), List.drop_eq_nil_of_le (by omega)]
    simp
theorem cut_to (xs : List V) (k : Nat) : cutV xs none (some (k : Int)) = xs.take k := by
  unfold cutV
  rw [HT.sIx_nat, HT.sIx_none]
  simp only [List.drop_zero, Nat.sub_zero]
  by_cases h : k ≤ xs.length
  · rw [Nat.min_eq_left h]
  · rw [Nat.min_eq_right (by omega), List.take_of_length_le (Nat.le_refl _), List.take_of_length_le (by omega)]
theorem cut_both (xs : List V) (a b : Nat) : cutV xs (some (a : Int)) (some (b : Int)) = (xs.drop a).take (b - a) := by
  unfold cutV
  rw [HT.sIx_nat, HT.sIx_nat]
  by_cases ha : a ≤ xs.length
  · rw [Nat.min_eq_left ha]
    by_cases hb : b ≤ xs.length
    · rw [Nat.min_eq_left hb]
    · rw [Nat.min_eq_right (by omega), List.take_of_length_le (by simp), List.take_of_length_le (by simp; omega)]
  · rw [Nat.min_eq_right (Nat.le_of_not_le ha), List.drop_eq_nil_of_le (Nat.le_refl _), List.drop_eq_nil_of_le (Nat.le_of_not_le ha)]
    simp
end L2
/-! OWN RULES over the hand layer: own exceptions that leave defs -/
namespace L2
open PySem PySem.Spec PyProof.Rows

/-- an exception of the class C flies: its record, the head of its traceback; neither is tracked, both are younger than g -/
def XAt (h g : Heap) (H : Hp) (a : Addr) (C : Value) : Prop :=
  ∃ oe vs T oT ts a0, h.get? a = some oe ∧ oe.cls = C ∧ oe.data = .fields vs ∧ vs[0]? = some a0 ∧ vs[1]? = some (.ref T) ∧ T ≠ a ∧ h.get? T = some oT ∧ oT.data = .fields ts ∧ ts[3]? = some .none ∧
    H a = none ∧ H T = none ∧ g.get? a = none ∧ g.get? T = none

/-- how such an exception lies behind a call -/
def CXr (P : Program) (w : World) : CXT := fun outer H s E e s' => ∃ (a : Addr) (C : Value) (H' : Hp), e = .ref a ∧ s'.os = s.os ∧ AllBare s'.gens ∧ Un (frs outer) [] H H' s.heap s'.heap ∧ HOk P w H' s'.heap ∧ XAt s'.heap s.heap H' a C ∧ E C none H'

section
variable {M : Model} {A : Around} {E : Value → Shared → Prop} {s : Shared}
/-- the frame is left: what stays -/
theorem leave_fly {base : Heap} {env : Env} {outer : List Env} {L a : Addr} {C : Value} {g : Heap} {H : Hp} {Q : Unit → Shared → Prop} (hfr : A.frames = some (env :: outer)) (hf : env.frame = some L) (hl : s.heap.FunFrames base (env :: outer))
    (x : XAt s.heap g H a C) (hH : ∀ b, H b ≠ none → ∃ o, s.heap.get? b = some o) (hg : ∀ b o, g.get? b = some o → ∃ o', s.heap.get? b = some o')
    (hQ : ∀ h' T, (∀ b o, s.heap.get? b = some o → b ∉ frs (env :: outer) → b ≠ a → b ≠ T → h'.get? b = some o) → (∀ b o, s.heap.get? b = some o → b ∈ frs (env :: outer) → ∃ sl, h'.get? b = some { o with slots := sl }) →
      H T = none → g.get? T = none → XAt h' g H a C → Q () { s with heap := h' }) : wpAny M A (leaving env (.ref a)) Q E s := by
  obtain ⟨oe, vs, T, oT, ts, a0, x1, x2, x3, x4, x5, x6, x7, x8, x9, x10, x11, x12, x13⟩ := x
  have memf : ∀ b, b ∈ frs (env :: outer) → b ∈ frs (env :: outer) ++ [a, T] := fun b hb => List.mem_append_left _ hb
  have hin : ∀ e ∈ (env :: outer), ∀ b, e.frame = some b → b ∈ frs (env :: outer) ++ [a, T] := fun e he b hb => memf b (List.mem_filterMap.mpr ⟨e, he, hb⟩)
  have nof : ∀ b o vs', s.heap.get? b = some o → o.data = .fields vs' → b ∉ frs (env :: outer) := fun b o vs' hb hd hm => by
    obtain ⟨_, o', ho', hnf⟩ := hl.mem hm
    rw [hb] at ho'; cases ho'
    exact hnf vs' hd
  refine wpAny_leaves_onW (base := PySem.W.hideAll s.heap (frs (env :: outer) ++ [a, T])) (cls := C) (a0 := a0) hfr hf ⟨fun b o q => PySem.W.of_hideAll _ q, PySem.W.hideAll_none _ (by simp), PySem.W.funFrames_hide hl hin, oe, vs, T, oT, ts, x1, ⟨x2, x4⟩, x3, x5, PySem.W.hideAll_none _ (by simp), x6, x7, x8, x9⟩ fun h' fl us => ?_
  obtain ⟨st, _, _, oe', vs', T', oT', ts', y1, ⟨y2, y4⟩, y3, y5, yB, y6, y7, y8, y9⟩ := fl
  have keep : ∀ b o, s.heap.get? b = some o → b ∉ frs (env :: outer) → b ≠ a → b ≠ T → h'.get? b = some o := fun b o hb n1 n2 n3 => st b o (PySem.W.hideAll_get _ hb (by
    intro hm
    rcases List.mem_append.mp hm with hm | hm
    · exact n1 hm
    · rcases List.mem_cons.mp hm with hm | hm
      · exact n2 hm
      · exact n3 (by simpa using hm)))
  have slot : ∀ b o, s.heap.get? b = some o → b ∈ frs (env :: outer) → ∃ sl, h'.get? b = some { o with slots := sl } := fun b o hb hm => by
    obtain ⟨_, o', ho', hnf⟩ := hl.mem hm
    rw [hb] at ho'; cases ho'
    exact us b o hb hnf
  -- the new head: the old one, or a new record
  have hT' : T' = T ∨ s.heap.get? T' = none := by
    cases q : s.heap.get? T' with
    | none => exact .inr rfl
    | some o =>
      refine .inl ?_
      by_cases hm : T' ∈ frs (env :: outer) ++ [a, T]
      · rcases List.mem_append.mp hm with hm | hm
        · obtain ⟨_, o', ho', hnf⟩ := hl.mem hm
          obtain ⟨sl, hs⟩ := us T' o' ho' hnf
          rw [hs] at y7; cases y7
          exact absurd y8 (hnf ts')
        · rcases List.mem_cons.mp hm with hm | hm
          · exact absurd hm y6
          · simpa using hm
      · rw [PySem.W.hideAll_get _ q hm] at yB; cases yB
  have hHT' : H T' = none := by
    rcases hT' with e | e
    · rw [e]; exact x11
    · cases q : H T' with
      | none => rfl
      | some u => obtain ⟨o, ho⟩ := hH T' (by rw [q]; simp); rw [e] at ho; cases ho
  have hgT' : g.get? T' = none := by
    rcases hT' with e | e
    · rw [e]; exact x13
    · cases q : g.get? T' with
      | none => rfl
      | some u => obtain ⟨o, ho⟩ := hg T' u q; rw [e] at ho; cases ho
  exact hQ h' T keep slot x11 x13 ⟨oe', vs', T', oT', ts', a0, y1, y2, y3, y4, y5, y6, y7, y8, y9, x10, hHT', x12, hgT'⟩
end

theorem ObjOk.get {P : Program} {w : World} {H : Hp} {h : Heap} {a : Addr} {o : HO} (x : ObjOk P w H h a o) : ∃ ob, h.get? a = some ob := by
  cases o with
  | lst xs => obtain ⟨_, _, _, _, e⟩ := x; exact ⟨_, e⟩
  | tup xs => obtain ⟨_, _, _, p⟩ := x; obtain ⟨ob, e, _⟩ := p; exact ⟨ob, e⟩
  | dK kvs => obtain ⟨_, _, _, _, o, _, _, e, _⟩ := x; exact ⟨o, e⟩
  | dT kvs => obtain ⟨_, _, _, _, o, _, _, e, _⟩ := x; exact ⟨o, e⟩
  | set S n => obtain ⟨o, _, _, _, e, _⟩ := x; exact ⟨o, e⟩
  | ins C dx fs => obtain ⟨_, _, _, e, _⟩ := x; exact ⟨_, e⟩
  | own y => obtain ⟨o, e⟩ := x; exact ⟨o, e⟩
  | xd fs => obtain ⟨_, ⟨o, _, _, e, _⟩, _⟩ := x; exact ⟨o, e⟩
  | rng lo hi => obtain ⟨_, _, _, e⟩ := x; exact ⟨_, e⟩
  | frz ob u => obtain ⟨e, _⟩ := x; exact ⟨_, e⟩
  | tbl ps => exact ⟨_, (show h.get? a = some _ from x)⟩
  | met f y => exact ⟨_, (show h.get? a = some _ from x)⟩
  | ext φ => obtain ⟨_, ⟨o, e⟩, _⟩ := x; exact ⟨o, e⟩
theorem HOk.there {P : Program} {w : World} {H : Hp} {h : Heap} (x : HOk P w H h) (b : Addr) (n : H b ≠ none) : ∃ o, h.get? b = some o := by
  cases q : H b with
  | none => exact absurd q n
  | some u => exact (x b u q).get
theorem HOk.keptT {P : Program} {w : World} {H : Hp} {h h' : Heap} (x : HOk P w H h) (k : ∀ b o, H b ≠ none → h.get? b = some o → h'.get? b = some o) : HOk P w H h' := fun b u e =>
  (x b u e).stay (fun c v hc q => k c v (by
    rcases hc with rfl | hc
    · rw [e]; simp
    · rw [hc]; simp) q) (fun _ q => q) fun _ _ q => q

section
variable {X : Cx} {pins : List (Addr × Obj)} {σ : St} {H1 H2 : Hp} {s1 : Shared} {h1 h2 : Heap}
theorem Inv.fsSub (I : Inv X pins σ H1 s1) : ∀ b ∈ X.fs, b ∈ frs X.stack := fun b hb => by
  rcases I.ok.stk with e | ⟨e, hf⟩
  · rw [e]; exact hb
  · rw [e]
    unfold frs
    rw [List.filterMap_cons, hf]
    exact List.mem_cons_of_mem _ hb
theorem un_out (I : Inv X pins σ H1 s1) (hex : X.ex = []) (u : Un (frs X.stack) [] H1 H2 s1.heap h1)
    (keep2 : ∀ b o, h1.get? b = some o → b ∉ frs X.stack → s1.heap.get? b ≠ none → h2.get? b = some o) (slot2 : ∀ b o, h1.get? b = some o → b ∈ frs X.stack → ∃ sl, h2.get? b = some { o with slots := sl }) :
    Un X.fs [] X.H₀ H2 X.s₀.heap h2 := by
  have nex : ∀ b : Addr, b ∉ X.ex := fun b => by rw [hex]; simp
  have nst : ∀ b o, X.s₀.heap.get? b = some o → b ∉ X.fs → b ∉ frs X.stack := fun b o e n hm => by
    rcases List.mem_cons.mp (I.stkSub b hm) with z | z
    · exact absurd (Nat.lt_of_lt_of_le (Heap.lt_size e) I.ok.above) (by rw [z]; exact Nat.lt_irrefl _)
    · exact n z
  refine ⟨fun b o e n hb _ => ?_, fun b o e n hb _ => ?_, fun b o e n _ => ?_, fun b o e _ => ?_, fun b xs q => u.tups b xs (I.base.tups b xs q), fun b o v q => u.frzs b o v (I.base.frzs b o v q), fun b ps q => ?_⟩
  · have e1 := I.base.keep b o e n hb (nex b)
    have n1 := I.base.free b o e n (nex b)
    have ns := nst b o e hb
    exact keep2 b o (u.keep b o e1 n1 ns (by simp)) ns (by rw [e1]; simp)
  · obtain ⟨sl, e1⟩ := I.base.slot b o e n hb (nex b)
    have n1 := I.base.free b o e n (nex b)
    have hm := I.fsSub b hb
    obtain ⟨sl2, e2⟩ := u.slot b _ e1 n1 hm (by simp)
    obtain ⟨sl3, e3⟩ := slot2 b _ e2 hm
    exact ⟨sl3, e3⟩
  · obtain ⟨o1, e1⟩ := I.base.there b o e (nex b)
    exact u.free b o1 e1 (I.base.free b o e n (nex b)) (by simp)
  · obtain ⟨o1, e1⟩ := I.base.there b o e (nex b)
    obtain ⟨o2, e2⟩ := u.there b o1 e1 (by simp)
    by_cases hm : b ∈ frs X.stack
    · obtain ⟨sl, e3⟩ := slot2 b o2 e2 hm
      exact ⟨_, e3⟩
    · exact ⟨o2, keep2 b o2 e2 hm (by rw [e1]; simp)⟩
  · obtain ⟨m1, e1⟩ := I.base.tbls b ps q
    obtain ⟨m2, e2⟩ := u.tbls b _ e1
    exact ⟨m1 ++ m2, by rw [e2, Array.append_assoc]⟩
theorem funs_un {base : Heap} {l : List Env} {fs : List Addr} (hl : s1.heap.FunFrames base l) (hH : ∀ b ∈ frs l, H1 b = none) (hs : ∀ b ∈ frs l, b ∈ fs) (u : Un fs [] H1 H2 s1.heap h1) : h1.FunFrames base l := by
  induction l with
  | nil => trivial
  | cons env r ih =>
    obtain ⟨hk, ⟨L, o, hf, hn, ho, hd⟩, hr⟩ := hl
    have hL : L ∈ frs (env :: r) := by unfold frs; rw [List.filterMap_cons, hf]; exact List.mem_cons_self
    have sub : ∀ b, b ∈ frs r → b ∈ frs (env :: r) := fun b hb => by unfold frs; rw [List.filterMap_cons, hf]; exact List.mem_cons_of_mem _ hb
    obtain ⟨sl, e⟩ := u.slot L o ho (hH L hL) (hs L hL) (by simp)
    exact ⟨hk, ⟨L, _, hf, hn, e, hd⟩, ih hr (fun b hb => hH b (sub b hb)) fun b hb => hs b (sub b hb)⟩
end

section
variable {P : Program} {w : World} {K : PySem.W.Frag} {mg : Str → Option Value} {base : Heap} {N : List Str} {qual : Str} {scope : Scope} {f : Addr} {cd : Value} {A : Around} {outer : List Env} {s : Shared} {H : Hp} {E : XK}
  {pins : List (Addr × Obj)} {σ : St} {H1 : Hp} {s1 : Shared}
/-- a raise leaves the def -/
theorem raise_out {h' : Heap} {a : Addr} {C : Value} {vs : List Value} (I : Inv (cxOf (CXr P w) P w K mg base N qual scope f cd A outer s H E) pins σ H1 s1) (hx : Heap.MadeExcOf s1.heap h' a C vs) (hE : E C none H1) :
    (cxOf (CXr P w) P w K mg base N qual scope f cd A outer s H E).xe (.ref a) { s1 with heap := h' } := by
  have hst := I.stack
  have hin : ∀ e ∈ (cxOf (CXr P w) P w K mg base N qual scope f cd A outer s H E).stack, ∀ b, e.frame = some b → b ∈ frs (cxOf (CXr P w) P w K mg base N qual scope f cd A outer s H E).stack := fun e he b hb => List.mem_filterMap.mpr ⟨e, he, hb⟩
  refine wpAny_leaves_madeW (base := PySem.W.hideAll s1.heap (frs (cxOf (CXr P w) P w K mg base N qual scope f cd A outer s H E).stack)) (h := s1.heap) I.ok.frames rfl (fun b o q => PySem.W.of_hideAll _ q) (PySem.W.funFrames_hide hst hin) hx fun h2 t fl _ _ us => ?_
  obtain ⟨st, _, _, oe, vs', T, oT, ts, y1, ⟨y2, y4⟩, y3, y5, yB, y6, y7, y8, y9⟩ := fl
  have keep : ∀ b o, s1.heap.get? b = some o → b ∉ frs (cxOf (CXr P w) P w K mg base N qual scope f cd A outer s H E).stack → h2.get? b = some o := fun b o hb n => st b o (PySem.W.hideAll_get _ hb n)
  have slot : ∀ b o, s1.heap.get? b = some o → b ∈ frs (cxOf (CXr P w) P w K mg base N qual scope f cd A outer s H E).stack → ∃ sl, h2.get? b = some { o with slots := sl } := fun b o hb hm => by
    obtain ⟨_, o', ho', hnf⟩ := hst.mem hm
    rw [hb] at ho'; cases ho'
    exact us b o (hx.keeps b o hb) hnf
  have hT : s1.heap.get? T = none := by
    cases q : s1.heap.get? T with
    | none => rfl
    | some o =>
      by_cases hm : T ∈ frs (cxOf (CXr P w) P w K mg base N qual scope f cd A outer s H E).stack
      · obtain ⟨_, o', ho', hnf⟩ := hst.mem hm
        obtain ⟨sl, hs⟩ := slot T o' ho' hm
        rw [hs] at y7; cases y7
        exact absurd y8 (hnf ts)
      · rw [PySem.W.hideAll_get _ q hm] at yB; cases yB
  have fresh : ∀ b, s1.heap.get? b = none → H1 b = none := fun b hb => by
    cases q : H1 b with
    | none => rfl
    | some u => obtain ⟨o, ho⟩ := I.hok.there b (by rw [q]; simp); rw [hb] at ho; cases ho
  have older : ∀ b, s1.heap.get? b = none → s.heap.get? b = none := fun b hb => by
    cases q : s.heap.get? b with
    | none => rfl
    | some u => obtain ⟨o, ho⟩ := I.base.there b u q (by intro z; cases z); rw [hb] at ho; cases ho
  have trk : ∀ b, H1 b ≠ none → b ∉ frs (cxOf (CXr P w) P w K mg base N qual scope f cd A outer s H E).stack := fun b hb hm => hb (I.stkFree b hm)
  refine ⟨a, C, H1, rfl, I.os, I.bare, ?_, I.hok.keptT fun b o hb e => keep b o e (trk b hb), ⟨oe, vs', T, oT, ts, _, y1, y2, y3, y4, y5, y6, y7, y8, y9, fresh a hx.new, fresh T hT, older a hx.new, older T hT⟩, hE⟩
  exact un_out (h1 := s1.heap) I rfl Un.refl (fun b o e n _ => keep b o e n) slot
/-- an exception of a callee leaves the def -/
theorem pass_out : Passes (CXr P w) (cxOf (CXr P w) P w K mg base N qual scope f cd A outer s H E) E := by
  intro pins σ H1 s1 e s2 I hc
  obtain ⟨a, C, H2, rfl, os2, bare2, u, hok, x, hE⟩ := hc
  have hst2 : s2.heap.FunFrames base (cxOf (CXr P w) P w K mg base N qual scope f cd A outer s H E).stack := funs_un I.stack I.stkFree (fun _ hb => hb) u
  have older1 : ∀ b o, s.heap.get? b = some o → ∃ o', s1.heap.get? b = some o' := fun b o e => I.base.there b o e (by intro z; cases z)
  have weaken : ∀ {h' : Heap}, XAt h' s1.heap H2 a C → XAt h' s.heap H2 a C := fun {h'} x => by
    obtain ⟨oe, vs, T, oT, ts, a0, x1, x2, x3, x4, x5, x6, x7, x8, x9, x10, x11, x12, x13⟩ := x
    refine ⟨oe, vs, T, oT, ts, a0, x1, x2, x3, x4, x5, x6, x7, x8, x9, x10, x11, ?_, ?_⟩
    · cases q : s.heap.get? a with
      | none => rfl
      | some o => obtain ⟨o', e'⟩ := older1 a o q; rw [x12] at e'; cases e'
    · cases q : s.heap.get? T with
      | none => rfl
      | some o => obtain ⟨o', e'⟩ := older1 T o q; rw [x13] at e'; cases e'
  have hna : s1.heap.get? a = none := by obtain ⟨_, _, _, _, _, _, _, _, _, _, _, _, _, _, _, _, _, z, _⟩ := x; exact z
  have hHa : H2 a = none := by obtain ⟨_, _, _, _, _, _, _, _, _, _, _, _, _, _, _, z, _⟩ := x; exact z
  refine leave_fly (E := _) I.ok.frames rfl hst2 x (fun b hb => hok.there b hb) (fun b o e => u.there b o e (by simp)) fun h' T keep slot hHT hgT xa => ?_
  have frFree : ∀ b ∈ frs (cxOf (CXr P w) P w K mg base N qual scope f cd A outer s H E).stack, H2 b = none := fun b hm => by
    obtain ⟨_, o, ho, _⟩ := I.stack.mem hm
    exact u.free b o ho (I.stkFree b hm) (by simp)
  refine ⟨a, C, H2, rfl, os2.trans I.os, bare2, ?_, hok.keptT fun b o hb e => keep b o e (fun hm => hb (frFree b hm)) (fun z => hb (by rw [z]; exact hHa)) (fun z => hb (by rw [z]; exact hHT)), weaken xa, hE⟩
  exact un_out I rfl u (fun b o e n hs => keep b o e n (fun z => hs (by rw [z]; exact hna)) fun z => hs (by rw [z]; exact hgT)) slot
/-- THE RULE for a def from which own exceptions may leave -/
theorem Fun.okX {x qual : Str} {st : Stmt} {f : Addr} {fd : FuncData} {N ps : List Str} {k : Nat} {sp : Sp} (F : Fun K x qual st f fd) (S : FnScope N ps (defScope st)) (len : ∀ vs H Q E, sp vs H Q E → vs.length = ps.length)
    (hbody : ∀ (cdv : Value) (A : Around) (outer : List Env) (s : Shared) (H : Hp) (vs : List V) (Q : VK) (E : XK), Room k (A.deeper (envOfC qual (defScope st) s.heap.objs.size f cdv)) → sp vs H Q E →
      ∃ t, PSs (cxOf (CXr P w) P w K mg base N qual (defScope st) f cdv A outer s H E) (defBody st) t ∧ t { nx := fun _ H' => Q .non H', rt := Q } (start N vs) H) : FnOk P w K mg base (CXr P w) (k + 1) f fd ps sp := by
  obtain ⟨oc, od, kV, doc, pm, an, cdv, ct, osl, rfl, lk, hcd⟩ := F.ex
  exact fn_of lk hcd S len fun A outer s H vs Q E hr hsp => hbody cdv A outer s H vs Q E hr hsp
end
end L2
/-! OWN RULES over the hand layer: raise of an own class -/
namespace L2
open PySem PySem.Spec PyProof.Rows

/-- what stands behind the class itself in its row of bases -/
def bmOf (K : PySem.W.Frag) (C : Addr) : List Value := match K.lookup C with
  | some o => (match o.data with
    | .cls d => d.mro.tail
    | _ => [])
  | none => []
/-- the object of an own class of exceptions -/
def OwnAt (h : Heap) (C : Addr) (bm bmB : List Value) (newId : String) : Prop :=
  ∃ N nm qn bs hdct sn sub ab col dd k0 k1 k2 k3 k5 mN, h.get? C = some (excClassObj nm qn C N bs bm hdct sn sub ab col dd k0 k1 k2 k3 k5 newId) ∧ h.Ns N mN ∧ mN "__init__" = none ∧ OwnTail h bmB bm
theorem own_obj {K : PySem.W.Frag} {h : Heap} {C : Addr} {bmB : List Value} {newId : String} (X : K.In h) (q : PySem.W.excIn K C bmB newId = true) : OwnAt h C (bmOf K C) bmB newId := by
  unfold PySem.W.excIn at q
  cases ho : K.lookup C with
  | none => rw [ho] at q; cases q
  | some o =>
    rw [ho] at q
    have hb : bmOf K C = (match o.data with
      | .cls d => d.mro.tail
      | _ => []) := by unfold bmOf; rw [ho]
    rw [hb]
    have hX := X C o ho
    split at q
    · next d cd sl he =>
      cases he
      split at q
      · next c1 bm a0 a1 a2 a3 nn a5 hm hs =>
        rw [Bool.and_eq_true, Bool.and_eq_true, Bool.and_eq_true, Bool.and_eq_true, Bool.and_eq_true] at q
        obtain ⟨⟨⟨⟨⟨z1, z2⟩, z3⟩, z4⟩, z5⟩, z6⟩ := q
        have z1 := beq_iff_eq.mp z1
        have z2 := beq_iff_eq.mp z2
        have z6 := beq_iff_eq.mp z6
        subst z1 z2
        have hsl : sl = #[a0, a1, a2, a3, some (.builtin nn), a5] := Array.toList_inj.mp hs
        obtain ⟨nm, bs, mro, ns, qn, hd, sn, sub, ab, col, del⟩ := cd
        have hm : mro = _ := hm
        have y3 : del = false := by simpa using z3
        subst hm hsl
        subst y3
        exact ⟨ns, nm, qn, bs, hd, sn, sub, ab, col, d, a0, a1, a2, a3, a5, _, hX, .of_isNs (PySem.W.isNs_of_in X z5), PySem.W.nsMap_none_of_in X z5 z6, PySem.W.tail_of_in X z4⟩
      · cases q
    · cases q

section
variable {P : Program} {w : World} {K : PySem.W.Frag} {mg : Str → Option Value} {base : Heap} {N : List Str} {qual : Str} {scope : Scope} {f : Addr} {cd : Value} {A : Around} {outer : List Env} {s : Shared} {H : Hp} {E : XK}
/-- raise C(e, ..) -/
def tRaise (C : Addr) (E : XK) (t : TA) : TS := fun _ σ H => t σ H fun vs H1 => vs.length ≤ sizeLine ∧ E (.ref C) none H1
theorem ps_raise {C : Addr} {bmB : List Value} {B newId initId : String} {x : Str} {p pos rpos : Pos} {e : Expr} {es : List Expr} {t : TA} (F : ExcBaseFacts B newId initId bmB) (hB : bmB.contains (.type "BaseException") = true)
    (hq : PySem.W.excIn K C bmB newId = true) (hg : Gl (cxOf (CXr P w) P w K mg base N qual scope f cd A outer s H E) x) (hm : mg x = some (.ref C)) (ha : PA (cxOf (CXr P w) P w K mg base N qual scope f cd A outer s H E) (e :: es) t)
    (hdb : (x == ("__debug__" : Str)) = false := by decide)
    (he : starEach (e :: es) (cxOf (CXr P w) P w K mg base N qual scope f cd A outer s H E).env = (false, eval e (cxOf (CXr P w) P w K mg base N qual scope f cd A outer s H E).env) :: starEach es (cxOf (CXr P w) P w K mg base N qual scope f cd A outer s H E).env := by rfl)
    (hpl : (backTo pos (starEach (e :: es) (cxOf (CXr P w) P w K mg base N qual scope f cd A outer s H E).env)).any (·.1) = false := by rfl) :
    PS (cxOf (CXr P w) P w K mg base N qual scope f cd A outer s H E) (.Raise (some (.Call (.Name x p) (e :: es) [] pos)) none rpos) (tRaise C E t) := by
  intro pins s1 σ H1 D I h
  obtain ⟨Nn, nm, qn, bs, hdct, sn, sub, ab, col, dd, k0, k1, k2, k3, k5, mN, hC, hN, hni, T⟩ := own_obj I.ok.mod.kin hq
  refine wpAny_Raise_call_subT (C := C) (nm := nm) (q := qn) (N := Nn) (bs := bs) (bm := bmOf K C) (hdct := hdct) (sn := sn) (sub := sub) (ab := ab) (col := col) (dd := dd) (k0 := k0) (k1 := k1) (k2 := k2) (k3 := k3) (k5 := k5) F (T.hasType hB) (I.ok.hd rfl) hpl hni ?_
  refine ld_glob I hg hm ⟨rfl, ?_⟩ hdb
  have h2 := ha pos pins s1 σ H1 _ I h
  rw [he] at h2 ⊢
  refine Calls.evalArgs_plain (thn h2 fun us s2 ⟨vs, H2, I2, r, q1, q2⟩ => ?_)
  have hk : ∀ b o, base.get? b = some o → s2.heap.get? b = some o := fun b o e => (I2.bs b o e).1
  refine ⟨rfl, by rw [← r.length]; exact q1, hk _ _ hC, hN.keeps hk, T.keeps hk, fun h' a mx => raise_out I2 mx q2⟩
end
end L2
/-! OWN RULES over the hand layer: an own exception is caught -/
namespace L2
open PySem PySem.Spec PyProof.Rows

section
variable {h g : Heap} {H : Hp} {a : Addr} {C : Value}
/-- the flying exception, the heap that hides it, and what every later heap of the landing keeps -/
theorem fly_step {base : Heap} {l : List Env} (hl : h.FunFrames base l) (x : XAt h g H a C) (hH : ∀ b, H b ≠ none → ∃ o, h.get? b = some o) (hg : ∀ b o, g.get? b = some o → ∃ o', h.get? b = some o') :
    ∃ B a0, Heap.FlyingW B l a C a0 h ∧ ∀ h', Heap.FlyingW B l a C a0 h' → h.UpToSlots h' →
      (∀ b o, h.get? b = some o → b ∉ frs l → (H b ≠ none ∨ g.get? b ≠ none) → h'.get? b = some o) ∧ (∀ b o, h.get? b = some o → b ∈ frs l → ∃ sl, h'.get? b = some { o with slots := sl }) ∧ ∃ ob, h'.get? a = some ob ∧ ob.cls = C := by
  obtain ⟨oe, vs, T, oT, ts, a0, x1, x2, x3, x4, x5, x6, x7, x8, x9, x10, x11, x12, x13⟩ := x
  have hin : ∀ e ∈ l, ∀ b, e.frame = some b → b ∈ frs l ++ [a, T] := fun e he b hb => List.mem_append_left _ (List.mem_filterMap.mpr ⟨e, he, hb⟩)
  refine ⟨PySem.W.hideAll h (frs l ++ [a, T]), a0, ⟨fun b o q => PySem.W.of_hideAll _ q, PySem.W.hideAll_none _ (by simp), PySem.W.funFrames_hide hl hin, oe, vs, T, oT, ts, x1, ⟨x2, x4⟩, x3, x5, PySem.W.hideAll_none _ (by simp), x6, x7, x8, x9⟩, fun h' fl us => ⟨fun b o hb n c => ?_, fun b o hb hm => ?_, fl.there⟩⟩
  · refine fl.1 b o (PySem.W.hideAll_get _ hb fun hm => ?_)
    rcases List.mem_append.mp hm with hm | hm
    · exact n hm
    · have hz : b = a ∨ b = T := by simpa using hm
      rcases hz with rfl | rfl
      · rcases c with c | c
        · exact c x10
        · exact c x12
      · rcases c with c | c
        · exact c x11
        · exact c x13
  · obtain ⟨_, o', ho', hnf⟩ := hl.mem hm
    rw [hb] at ho'; cases ho'
    exact us b o hb hnf
end

/-- how a caught exception is tracked: by its class -/
def ExcO (a : Addr) (C : Value) : HO := .ext fun h => ∃ o, h.get? a = some o ∧ o.cls = C
theorem excO_ok {P : Program} {w : World} {H : Hp} {h : Heap} {a : Addr} {C : Value} {o : Obj} (e : h.get? a = some o) (c : o.cls = C) : ObjOk P w H h a (ExcO a C) :=
  ⟨⟨o, e, c⟩, ⟨o, e⟩, fun _ _ ⟨o, e, c⟩ k => ⟨o, k o e, c⟩⟩
theorem HOk.adds {P : Program} {w : World} {H : Hp} {h : Heap} {a : Addr} {o : HO} (x : HOk P w H h) (hn : H a = none) (new : ObjOk P w (upd H a o) h a o) : HOk P w (upd H a o) h := fun b u e => by
  by_cases hb : b = a
  · subst hb; rw [upd_same] at e; cases e; exact new
  · rw [upd_ne hb] at e
    exact (x b u e).stay (fun _ _ _ q => q) (fun c q => by rw [upd_ne (ne_of_none q hn)]; exact q) fun c xs q => by rw [upd_ne (ne_of_none q hn)]; exact q

section
variable {fs : List Addr} {H1 H2 : Hp} {h0 h1 h2 : Heap}
theorem un_step (u : Un fs [] H1 H2 h0 h1) (keep : ∀ b o, h1.get? b = some o → b ∉ fs → (H2 b ≠ none ∨ h0.get? b ≠ none) → h2.get? b = some o) (slot : ∀ b o, h1.get? b = some o → b ∈ fs → ∃ sl, h2.get? b = some { o with slots := sl }) : Un fs [] H1 H2 h0 h2 := by
  refine ⟨fun b o e n hb _ => ?_, fun b o e n hb _ => ?_, u.free, fun b o e _ => ?_, u.tups, u.frzs, u.tbls⟩
  · exact keep b o (u.keep b o e n hb (by simp)) hb (.inr (by rw [e]; simp))
  · obtain ⟨sl, e1⟩ := u.slot b o e n hb (by simp)
    obtain ⟨sl2, e2⟩ := slot b _ e1 hb
    exact ⟨sl2, e2⟩
  · obtain ⟨o1, e1⟩ := u.there b o e (by simp)
    by_cases hb : b ∈ fs
    · obtain ⟨sl, e2⟩ := slot b o1 e1 hb
      exact ⟨_, e2⟩
    · exact ⟨o1, keep b o1 e1 hb (.inr (by rw [e]; simp))⟩
theorem un_add {a : Addr} {o : HO} (u : Un fs [] H1 H2 h0 h1) (ha : h0.get? a = none) (hn : H2 a = none) : Un fs [] H1 (upd H2 a o) h0 h1 := by
  refine ⟨u.keep, u.slot, fun b ob e n z => ?_, u.there, fun b xs q => ?_, fun b ob v q => ?_, fun b ps q => ?_⟩
  · rw [upd_ne (by rintro rfl; rw [ha] at e; cases e)]
    exact u.free b ob e n z
  · have := u.tups b xs q
    rw [upd_ne (ne_of_none this hn)]; exact this
  · have := u.frzs b ob v q
    rw [upd_ne (ne_of_none this hn)]; exact this
  · obtain ⟨m, e⟩ := u.tbls b ps q
    exact ⟨m, by rw [upd_ne (ne_of_none e hn)]; exact e⟩
end

section
variable {X : Cx} {pins : List (Addr × Obj)} {σ : St} {H1 H2 : Hp} {s1 s2 : Shared} {a : Addr} {C : Value}
/-- the state that the handler finds -/
theorem fly_inv (I : Inv X pins σ H1 s1) (os : s2.os = s1.os) (bare : AllBare s2.gens) (u : Un (frs X.stack) [] H1 H2 s1.heap s2.heap) (hok : HOk X.prog X.w H2 s2.heap) (x : XAt s2.heap s1.heap H2 a C) :
    ∃ B a0, Heap.FlyingW B X.stack a C a0 s2.heap ∧ ∀ h', Heap.FlyingW B X.stack a C a0 h' → s2.heap.UpToSlots h' → Inv X pins σ (upd H2 a (ExcO a C)) { s2 with heap := h' } := by
  have hst2 : s2.heap.FunFrames X.base X.stack := funs_un I.stack I.stkFree (fun _ hb => hb) u
  have hHa : H2 a = none := by obtain ⟨_, _, _, _, _, _, _, _, _, _, _, _, _, _, _, z, _⟩ := x; exact z
  have hna : s1.heap.get? a = none := by obtain ⟨_, _, _, _, _, _, _, _, _, _, _, _, _, _, _, _, _, z, _⟩ := x; exact z
  obtain ⟨B, a0, fl, st⟩ := fly_step hst2 x (fun b hb => hok.there b hb) (fun b o e => u.there b o e (by simp))
  refine ⟨B, a0, fl, fun h' fl' us => ?_⟩
  obtain ⟨keep, slot, ob, hob, hc⟩ := st h' fl' us
  have frFree : ∀ b ∈ frs X.stack, H2 b = none := fun b hm => by
    obtain ⟨_, o, ho, _⟩ := I.stack.mem hm
    exact u.free b o ho (I.stkFree b hm) (by simp)
  have hok' : HOk X.prog X.w H2 h' := hok.keptT fun b o hb e => keep b o e (fun hm => hb (frFree b hm)) (.inl hb)
  exact I.call' (s' := { s2 with heap := h' }) (ch := []) os (un_add (un_step u keep slot) hna hHa) (hok'.adds hHa (excO_ok hob hc)) bare (fun b z => absurd z (by simp))
end
end L2
/-! OWN RULES over the hand layer: try with one except clause -/
namespace L2
open PySem PySem.Spec PyProof.Rows

section
variable {X : Cx} {pins : List (Addr × Obj)} {σ : St} {H : Hp} {s : Shared}
/-- a plain local name is taken away -/
theorem unbind_ok {M : Model} {A : Around} {E : Value → Shared → Prop} {i : Nat} {n : Str} {pos : Pos} {Q : Unit → Shared → Prop} (I : Inv X pins σ H s) (hN : X.N.Nodup) (hi : X.N[i]? = some n) (hx : X.env.scope.names.lookup n = some .local)
    (h : ∀ s', Inv X pins (σ.set i none) H s' → Q () s') : wpAny M A (do bindName X.env n .none; unbindBehindTheSuite X.env n pos) Q E s := by
  have hcls : (X.env.scope.kind == .class || (X.env.scope.kind == .module && X.env.locals != X.env.globals)) = false := by rw [I.ok.kind]; rfl
  refine wpAny_bind (wpAny_bindName (store_ok (v := .non) I hN hi (.inl hx) rfl (fun s1 I1 => ?_) (.inr hx)))
  unfold unbindBehindTheSuite
  refine wpAny_onRaise ?_
  have hiσ : i < σ.length := by rw [I.len]; exact (List.getElem?_eq_some_iff.mp hi).1
  obtain ⟨m, hn, hl⟩ := id I1.loc
  obtain ⟨u, _, q⟩ := hl i n .non hi (List.getElem?_set_self hiσ) (.inl hx)
  have hm : m n = some u := by
    rcases q with ⟨_, e⟩ | ⟨k, _⟩
    · exact e
    · have hx' : X.env.kindOf n = some .local := hx
      rw [hx'] at k
      rcases k with k | k <;> cases k
  refine wpAny_unbindName_local hx hn hm hcls fun h' u' hn' hs => ?_
  have cne := I1.cne
  obtain ⟨oL, _, _, hoL, _⟩ := id hn
  have lt : ∀ b o, X.s₀.heap.get? b = some o → h'.get? b = s1.heap.get? b := fun b o e => hs.2 b (Nat.ne_of_lt (Nat.lt_of_lt_of_le (Heap.lt_size e) I1.ok.above))
  refine h { s1 with heap := h' } ⟨I1.ok, I1.os, I1.bare, ⟨fun b o e n hb hx => (lt b o e).trans (I1.base.keep b o e n hb hx), fun b o e n hb hx => ?_, I1.base.free, fun b o e hx => ?_, I1.base.tups, I1.base.frzs, I1.base.tbls⟩, ⟨_, hn', fun j y v' e1 e2 e3 => ?_⟩, fun y c e => ?_, I1.free, I1.freeC, fun p hp => ?_, fun b ob e => ?_, by simpa using I.len⟩
  · obtain ⟨sl, e1⟩ := I1.base.slot b o e n hb hx
    exact ⟨sl, (lt b o e).trans e1⟩
  · obtain ⟨o', e1⟩ := I1.base.there b o e hx
    exact ⟨o', (lt b o e).trans e1⟩
  · have hj : j ≠ i := by
      rintro rfl
      rw [List.getElem?_set_self hiσ] at e2; cases e2
    rw [List.getElem?_set_ne (Ne.symm hj)] at e2
    obtain ⟨u2, r2, q2⟩ := hl j y v' e1 (by rw [List.getElem?_set_ne (Ne.symm hj)]; exact e2) e3
    refine ⟨u2, r2, ?_⟩
    rcases q2 with ⟨k, e⟩ | ⟨k, c, e, z⟩
    · refine .inl ⟨k, ?_⟩
      have : y ≠ n := fun e => hj (nodup_ix hN e1 (e ▸ hi))
      simp [this, e]
    · exact .inr ⟨k, c, e, z.sameBut hs (cne y c e)⟩
  · obtain ⟨w', z⟩ := I1.cell y c e
    exact ⟨w', z.sameBut hs (cne y c e)⟩
  · obtain ⟨e, n', ne, nf, d⟩ := I1.pin p hp
    exact ⟨(hs.2 p.1 ne).trans e, n', ne, nf, d⟩
  · refine (I1.hok b ob e).stay (fun c v hc q => (hs.2 c ?_).trans q) (fun _ q => q) fun _ _ q => q
    rintro rfl
    rcases hc with rfl | hc
    · rw [I1.free] at e; cases e
    · rw [I1.free] at hc; cases hc
end

section
variable {M : Model} {A : Around} {E : Value → Shared → Prop} {h : Heap} {g : Array GenState} {d : Drawn} {t : Nat} {os : OsState}
/-- except D for an exception of the class C: C's row of bases has D -/
theorem matches_own {a C D : Addr} {bm bmB bmD bmE : List Value} {n1 n2 : String} {oe : Obj} {Q : Bool → Shared → Prop} (hC : OwnAt h C bm bmB n1) (hD : OwnAt h D bmD bmE n2) (he : h.get? a = some oe) (hcls : oe.cls = .ref C)
    (hB : bmE.contains (.type "BaseException") = true) (hm : (Value.ref C :: bm).contains (.ref D) = true) (hq : Q true ⟨h, g, d, t, os⟩) : wpAny M A (excMatches (.ref a) (.ref D)) Q E ⟨h, g, d, t, os⟩ := by
  obtain ⟨_, _, _, _, _, _, _, _, _, _, _, _, _, _, _, _, oC, _⟩ := hC
  obtain ⟨_, _, _, _, _, _, _, _, _, _, _, _, _, _, _, _, oD, _, _, TD⟩ := hD
  have hcB : (Value.ref D :: bmD).contains (.type "BaseException") = true := by rw [List.contains_cons, TD.hasType hB, Bool.or_true]
  have f := tc_notTuple
  unfold excMatches
  repeat (first
    | (with_reducible refine wpAny_loadPart_at he ?_; rw [hcls])
    | with_reducible refine wpAny_loadPart_at oD ?_
    | (with_reducible refine wpAny_isSubtype_exc oD ?_; rw [hcB])
    | (with_reducible refine wpAny_isSubtype_exc oC ?_; rw [hm])
    | wp_step)
  exact hq
end

/-- within an except suite -/
def Cx.marked (X : Cx) (e : Value) : Cx := { X with A := X.A.mark (some e), calm := false, xe := fun _ _ => False }
section
variable {X : Cx} {pins : List (Addr × Obj)} {σ : St} {H : Hp} {s : Shared} {e : Value}
theorem Inv.mark (I : Inv X pins σ H s) : Inv (X.marked e) pins σ H s :=
  ⟨⟨I.ok.mod, I.ok.kind, I.ok.glob, I.ok.blt, I.ok.above, I.ok.inj, I.ok.has, I.ok.cab, (fun z => nomatch z), I.ok.frames, I.ok.stk, I.ok.exf, I.ok.bs, I.ok.bsz, I.ok.noex, I.ok.exfs, I.ok.funs, I.ok.frf⟩, I.os, I.bare, I.base, I.loc, I.cell, I.free, I.freeC, I.pin, I.hok, I.len⟩
theorem Inv.unmark (ok : X.Ok) (I : Inv (X.marked e) pins σ H s) : Inv X pins σ H s := ⟨ok, I.os, I.bare, I.base, I.loc, I.cell, I.free, I.freeC, I.pin, I.hok, I.len⟩
end
end L2
/-! OWN RULES over the hand layer: expressions and suites that may raise; try -/
namespace L2
open PySem PySem.Spec PyProof.Rows

/-- another wish for exceptions -/
def Cx.xed (X : Cx) (xe : Value → Shared → Prop) : Cx := { X with xe := xe }
section
variable {X : Cx} {pins : List (Addr × Obj)} {σ : St} {H : Hp} {s : Shared} {xe : Value → Shared → Prop}
theorem Inv.xed (I : Inv X pins σ H s) : Inv (X.xed xe) pins σ H s :=
  ⟨⟨I.ok.mod, I.ok.kind, I.ok.glob, I.ok.blt, I.ok.above, I.ok.inj, I.ok.has, I.ok.cab, I.ok.hd, I.ok.frames, I.ok.stk, I.ok.exf, I.ok.bs, I.ok.bsz, I.ok.noex, I.ok.exfs, I.ok.funs, I.ok.frf⟩, I.os, I.bare, I.base, I.loc, I.cell, I.free, I.freeC, I.pin, I.hok, I.len⟩
theorem Inv.unxed (I : Inv (X.xed xe) pins σ H s) : Inv X pins σ H s :=
  ⟨⟨I.ok.mod, I.ok.kind, I.ok.glob, I.ok.blt, I.ok.above, I.ok.inj, I.ok.has, I.ok.cab, I.ok.hd, I.ok.frames, I.ok.stk, I.ok.exf, I.ok.bs, I.ok.bsz, I.ok.noex, I.ok.exfs, I.ok.funs, I.ok.frf⟩, I.os, I.bare, I.base, I.loc, I.cell, I.free, I.freeC, I.pin, I.hok, I.len⟩
end

abbrev TEX := St → Hp → VK → XK → Prop
abbrev TSX := Ends → (St → XK) → St → Hp → Prop
def PEX (X : Cx) (e : Expr) (t : TEX) : Prop :=
  ∀ (pins : List (Addr × Obj)) (s : Shared) (σ : St) (H : Hp) (Q : VK) (E : XK) (XE : Value → Shared → Prop), Inv X pins σ H s → t σ H Q E →
    (∀ H1 s1 e s', Inv X pins σ H1 s1 → CXr X.prog X.w X.stack H1 s1 E e s' → XE e s') → wpAny (model X.prog X.w) X.A (eval e X.env) (EP X pins σ Q) XE s
def PSX (X : Cx) (st : List Stmt) (t : TSX) : Prop :=
  ∀ (pins : List (Addr × Obj)) (s : Shared) (σ : St) (H : Hp) (D : Ends) (E : St → XK) (XE : Value → Shared → Prop), Inv X pins σ H s → t D E σ H →
    (∀ σ1 H1 s1 e s', Inv X pins σ1 H1 s1 → CXr X.prog X.w X.stack H1 s1 (E σ1) e s' → XE e s') → wpAny (model X.prog X.w) X.A (execs st X.env) (SP X pins D) XE s

section
variable {X : Cx} {k : Nat} {f C : Addr} {fd : FuncData} {ps : List Str} {sp : Sp} {dvs : List V} {ds : List Value} {x m : Str} {p pos apos : Pos} {e o : Expr} {es : List Expr} {ta : TE} {t : TA}
theorem run_fnX {pins : List (Addr × Obj)} {σ : St} {H : Hp} {s : Shared} {Q : VK} {E : XK} {XE : Value → Shared → Prop} {us : List Value} {vs : List V} (F : FnOk X.prog X.w X.K X.mg X.base (CXr X.prog X.w) k f fd ps sp) (hr : Room k X.A) (hb : Binds X.K fd ps ds) (hd : Vals dvs ds)
    (I : Inv X pins σ H s) (r : Vals vs us) (h : sp (vs ++ dvs) H Q E) (hx : ∀ e s', CXr X.prog X.w X.stack H s E e s' → XE e s') : wpAny (model X.prog X.w) X.A (call (.ref f) us) (EP X pins σ Q) XE s := by
  have r2 : Vals (vs ++ dvs) (us ++ ds) := r.append hd
  have hl : (us ++ ds).length = ps.length := by rw [← r2.length]; exact F.len _ _ _ _ h
  refine wpAny_call (codeAny_mono (F.run X.A X.stack s H ⟨us, []⟩ (us ++ ds) (vs ++ dvs) Q E hr I.env0 (hb s us I.kIn hl) r2 h) fun r s' hq => ?_)
  cases r with
  | error e => exact hx e s' hq
  | ok fl =>
    cases fl with
    | ret u => exact I.after hq
    | next => exact False.elim hq
    | brk => exact False.elim hq
    | cont => exact False.elim hq
def xCall (sp : Sp) (dvs : List V) (t : TA) : TEX := fun σ H Q E => t σ H fun vs H1 => sp (vs ++ dvs) H1 Q E
theorem pex_call (F : FnOk X.prog X.w X.K X.mg X.base (CXr X.prog X.w) k f fd ps sp) (hr : Room k X.A) (hg : Gl X x) (hm : X.mg x = some (.ref f)) (hk : PySem.W.keepIn X.K (.ref f) = true) (hb : Binds X.K fd ps ds) (hd : Vals dvs ds)
    (ha : ∀ xe, PA (X.xed xe) (e :: es) t) (hdb : (x == ("__debug__" : Str)) = false := by decide) (he : starEach (e :: es) X.env = (false, eval e X.env) :: starEach es X.env := by rfl) (hpl : (backTo pos (starEach es X.env)).any (·.1) = false := by rfl) :
    PEX X (.Call (.Name x p) (e :: es) [] pos) (xCall sp dvs t) := by
  intro pins s σ H Q E XE I h hx
  refine wpAny_Call_Name_kw (ld_glob I hg hm ?_ hdb)
  refine PySem.W.callWith_K (h₀ := X.base) I.ok.mod.kin hk (thn (ha XE pos pins s σ H _ I.xed h) fun us s1 ⟨vs, H1, I1, r, q⟩ => ⟨I1.kIn, ?_⟩) he hpl
  exact run_fnX F hr hb hd I1.unxed r q fun e s' c => hx _ _ e s' I1.unxed c
def xMeth (C : Addr) (m : Str) (sp : Sp) (dvs : List V) (ta : TE) (t : TA) : TEX := fun σ H Q E => ta σ H fun x H1 => ∃ a dx fs, x = .ref a ∧ H1 a = some (.ins C dx fs) ∧ fs.lookup m = none ∧ t σ H1 fun vs H2 => sp (x :: (vs ++ dvs)) H2 Q E
theorem pex_meth {pl : Sem Bool} (he : ∀ xe, PE (X.xed xe) o ta) (c : Cls X.K C) (hm : Meth X.K C m f) (F : FnOk X.prog X.w X.K X.mg X.base (CXr X.prog X.w) k f fd ps sp) (hr : Room k X.A) (hb : Binds X.K fd ps ds) (hd : Vals dvs ds) (ha : ∀ xe, PA (X.xed xe) (e :: es) t)
    (hst : starEach (e :: es) X.env = (false, eval e X.env) :: starEach es X.env := by rfl) (hpl : (backTo pos (starEach es X.env)).any (·.1) = false := by rfl)
    (ht : eval (.Call (.Attribute o m apos) (e :: es) [] pos) X.env = (do
      let ov ← eval o X.env
      standAt apos.atName
      let (f, first) ← holding [ov] (getMethod ov m pl)
      callWith pos f first (backTo pos (starEach (e :: es) X.env)) (backToKw pos (keywordEach [] X.env))) := by rfl) :
    PEX X (.Call (.Attribute o m apos) (e :: es) [] pos) (xMeth C m sp dvs ta t) := by
  intro pins s σ H Q E XE I h hx
  refine PySem.W.methodCall_KW (pl := pl) (thn (he XE pins s σ H _ I.xed h) fun u s1 ⟨x, H1, I1, rx, a, dx, fs, ex, ea, l, q⟩ => ?_) ht
  subst ex
  obtain rfl : u = Value.ref a := rx
  refine getmeth_ok I1.unxed ea c hm l ?_
  refine PySem.W.callWith_K (first := [.ref a]) (h₀ := X.base) I.ok.mod.kin hm.kp (thn (ha XE pos pins s1 σ H1 _ I1 q) fun us s2 ⟨vs, H2, I2, r, q2⟩ => ⟨I2.kIn, ?_⟩) hst hpl
  exact run_fnX (us := .ref a :: us) (vs := .ref a :: vs) F hr hb hd I2.unxed (.cons rfl r) q2 fun e s' c => hx _ _ e s' I2.unxed c
/-- what never raises -/
theorem pex_pe {te : TE} (he : ∀ xe, PE (X.xed xe) e te) : PEX X e (fun σ H Q _ => te σ H Q) := by
  intro pins s σ H Q E XE I h _
  exact thn (he XE pins s σ H Q I.xed h) fun u s1 ⟨v, H1, I1, r, q⟩ => ⟨v, H1, I1.unxed, r, q⟩
end

section
variable {X : Cx} {e : Expr} {pos : Pos} {t : TEX} {st : Stmt} {rest : List Stmt} {a b : List Stmt} {ta tb : TSX}
def xRet (t : TEX) : TSX := fun D E σ H => t σ H D.rt (E σ)
theorem psx_ret (he : PEX X e t) : PSX X [.Return (some e) pos] (xRet t) := by
  intro pins s σ H D E XE I h hx
  exact wpAny_execs_cons (wpAny_Return_some (thn (he pins s σ H _ _ XE I h fun H1 s1 => hx σ H1 s1) fun v s1 ⟨x, H1, I1, r1, q1⟩ => ⟨x, σ, H1, I1, r1, q1⟩))
def xSet (i : Nat) (t : TEX) : TSX := fun D E σ H => t σ H (fun v H1 => D.nx (σ.set i (some v)) H1) (E σ)
theorem psx_set {i : Nat} {x : Str} {pos' : Pos} (hN : X.N.Nodup) (hi : X.N[i]? = some x) (hx : Loc X.env.scope x) (he : PEX X e t) (hs : swapsWith e (some (.Name x pos')) pos.line X.env = pure false := by rfl) (hf : X.fn x = true ∨ X.env.scope.names.lookup x = some .local := by first | exact .inl rfl | exact .inr rfl | assumption) :
    PSX X [.Assign [.Name x pos'] e pos] (xSet i t) := by
  intro pins s σ H D E XE I h hxe
  refine wpAny_execs_cons (wpAny_Assign_Name (thn (he pins s σ H _ _ XE I h fun H1 s1 => hxe σ H1 s1) fun v s1 ⟨y, H1, I1, r1, q1⟩ => ?_) hs)
  exact store_ok I1 hN hi hx r1 (fun s2 I2 => wpAny_execs_nil ⟨_, H1, I2, q1⟩) hf
def xDrop (t : TEX) : TSX := fun D E σ H => t σ H (fun _ H1 => D.nx σ H1) (E σ)
theorem psx_expr (he : PEX X e t) (hs : swapsWith e none pos.line X.env = pure false := by rfl) : PSX X [.Expr e pos] (xDrop t) := by
  intro pins s σ H D E XE I h hxe
  exact wpAny_execs_cons (wpAny_Expr_any (thn (he pins s σ H _ _ XE I h fun H1 s1 => hxe σ H1 s1) fun v s1 ⟨x, H1, I1, r1, q1⟩ => wpAny_execs_nil ⟨σ, H1, I1, q1⟩) I.quiet hs)
end
end L2
/-! OWN RULES over the hand layer: try with one except clause, by an own class -/
namespace L2
open PySem PySem.Spec PyProof.Rows

/-- behind a suite whose name goes -/
def Ends.minus (D : Ends) (i : Nat) : Ends := { nx := fun σ H => D.nx (σ.set i none) H, rt := D.rt, bk := fun σ H => D.bk (σ.set i none) H, ct := fun σ H => D.ct (σ.set i none) H }
/-- the classes that the clause takes -/
structure Takes (K : PySem.W.Frag) (D : Addr) (Ok : Addr → Prop) : Prop where
  own : ∃ bmB nid, PySem.W.excIn K D bmB nid = true ∧ bmB.contains (.type "BaseException") = true
  all : ∀ c, Ok c → (∃ bmB nid, PySem.W.excIn K c bmB nid = true) ∧ (Value.ref c :: bmOf K c).contains (.ref D) = true
theorem OwnAt.keeps {h h' : Heap} {C : Addr} {bm bmB : List Value} {nid : String} (x : OwnAt h C bm bmB nid) (k : ∀ b o, h.get? b = some o → h'.get? b = some o) : OwnAt h' C bm bmB nid := by
  obtain ⟨N, nm, qn, bs, hdct, sn, sub, ab, col, dd, k0, k1, k2, k3, k5, mN, hC, hN, hni, T⟩ := x
  exact ⟨N, nm, qn, bs, hdct, sn, sub, ab, col, dd, k0, k1, k2, k3, k5, mN, k _ _ hC, hN.keeps k, hni, T.keeps k⟩

section
variable {X : Cx} {x n : Str} {np hpos pos : Pos} {body suite : List Stmt} {b₀ : Stmt} {i : Nat} {tb : TSX} {ts : TS} {D0 : Addr} {Ok : Addr → Prop}
def tTryAs (Ok : Addr → Prop) (i : Nat) (tb : TSX) (ts : TS) : TS := fun D σ H => tb D (fun σ1 C _ H2 => ∃ c, C = .ref c ∧ Ok c ∧ ∀ a, H2 a = none → ts (D.minus i) (σ1.set i (some (.ref a))) (upd H2 a (ExcO a (.ref c)))) σ H
def tTry (Ok : Addr → Prop) (tb : TSX) (ts : TS) : TS := fun D σ H => tb D (fun σ1 C _ H2 => ∃ c, C = .ref c ∧ Ok c ∧ ∀ a, H2 a = none → ts D σ1 (upd H2 a (ExcO a (.ref c)))) σ H
theorem ps_try_as (hst : X.stack = X.env :: X.outer) (hf : X.env.frame = some X.env.locals) (hN : X.N.Nodup) (hi : X.N[i]? = some n) (hn : X.env.scope.names.lookup n = some .local) (hg : Gl X x) (hm : X.mg x = some (.ref D0)) (tk : Takes X.K D0 Ok)
    (hb : PSX X body tb) (hs : ∀ a, PSs (X.marked (.ref a)) (b₀ :: suite) ts) (hdb : (x == ("__debug__" : Str)) = false := by decide) :
    PS X (.Try body [.ExceptHandler (some (.Name x np)) (some n) (b₀ :: suite) hpos] [] [] pos) (tTryAs Ok i tb ts) := by
  intro pins s σ H D I h
  refine wpAny_Try_except (wpAny_mono (hb pins s σ H D _ _ I h fun σ1 H1 s1 e s2 I1 hc => ?_) (fun f s1 q => ?_) fun _ _ z => z)
  rotate_left
  · cases f with
    | next => exact wpAny_execs_nil q
    | ret v => exact q
    | brk => exact q
    | cont => exact q
  obtain ⟨a, C, H2, rfl, os2, bare2, u, hok, xa, c, rfl, okc, hts⟩ := hc
  have hHa : H2 a = none := by obtain ⟨_, _, _, _, _, _, _, _, _, _, _, _, _, _, _, z, _⟩ := xa; exact z
  obtain ⟨B, a0, fl, st⟩ := fly_inv I1 os2 bare2 u hok xa
  rw [hst] at fl st
  refine wpAny_looks_onW (by rw [I1.ok.frames, hst]) hf fl fun h3 held us3 => ?_
  refine wpAny_landsW held fun h4 fl4 us4 => ?_
  have I4 := st h4 fl4 (us3.trans us4)
  obtain ⟨ob, hob, hobc⟩ := fl4.there
  refine wpAny_handleBy_cons (codeAny_handlers_test (ld_glob (X := X.marked (.ref a)) I4.mark hg hm ?_ hdb)) (by intro q; cases q)
  obtain ⟨⟨bE, nE, qD, hB⟩, hall⟩ := tk
  obtain ⟨⟨bC, nC, qC⟩, hcD⟩ := hall c okc
  have k4 : ∀ b o, X.base.get? b = some o → h4.get? b = some o := fun b o e => (I4.bs b o e).1
  refine matches_own ((own_obj I.ok.mod.kin qC).keeps k4) ((own_obj I.ok.mod.kin qD).keeps k4) hob hobc hB hcD ?_
  refine codeAny_handlers_suite_as ?_
  refine lands_againW fl4 fun h5 fl5 us5 => ?_
  have I5 := st h5 fl5 ((us3.trans us4).trans us5)
  refine store_ok (X := X.marked (.ref a)) (v := .ref a) I5.mark hN hi (.inl hn) rfl (fun s6 I6 => ?_) (.inr hn)
  refine wpAny_mono (hs a pins s6 _ _ (D.minus i) I6 (hts a hHa)) (fun f s7 q => ?_) fun _ _ z => z.elim
  cases f with
  | next =>
    obtain ⟨σ', H', I', q⟩ := q
    exact unbind_ok (I'.unmark I.ok) hN hi hn fun s8 I8 => ⟨_, _, I8, q⟩
  | brk =>
    obtain ⟨σ', H', I', q⟩ := q
    exact unbind_ok (I'.unmark I.ok) hN hi hn fun s8 I8 => ⟨_, _, I8, q⟩
  | cont =>
    obtain ⟨σ', H', I', q⟩ := q
    exact unbind_ok (I'.unmark I.ok) hN hi hn fun s8 I8 => ⟨_, _, I8, q⟩
  | ret v =>
    obtain ⟨y, σ', H', I', r, q⟩ := q
    exact unbind_ok (I'.unmark I.ok) hN hi hn fun s8 I8 => ⟨y, _, _, I8, r, q⟩
theorem ps_try (hst : X.stack = X.env :: X.outer) (hf : X.env.frame = some X.env.locals) (hg : Gl X x) (hm : X.mg x = some (.ref D0)) (tk : Takes X.K D0 Ok)
    (hb : PSX X body tb) (hs : ∀ a, PSs (X.marked (.ref a)) (b₀ :: suite) ts) (hdb : (x == ("__debug__" : Str)) = false := by decide) :
    PS X (.Try body [.ExceptHandler (some (.Name x np)) none (b₀ :: suite) hpos] [] [] pos) (tTry Ok tb ts) := by
  intro pins s σ H D I h
  refine wpAny_Try_except (wpAny_mono (hb pins s σ H D _ _ I h fun σ1 H1 s1 e s2 I1 hc => ?_) (fun f s1 q => ?_) fun _ _ z => z)
  rotate_left
  · cases f with
    | next => exact wpAny_execs_nil q
    | ret v => exact q
    | brk => exact q
    | cont => exact q
  obtain ⟨a, C, H2, rfl, os2, bare2, u, hok, xa, c, rfl, okc, hts⟩ := hc
  have hHa : H2 a = none := by obtain ⟨_, _, _, _, _, _, _, _, _, _, _, _, _, _, _, z, _⟩ := xa; exact z
  obtain ⟨B, a0, fl, st⟩ := fly_inv I1 os2 bare2 u hok xa
  rw [hst] at fl st
  refine wpAny_looks_onW (by rw [I1.ok.frames, hst]) hf fl fun h3 held us3 => ?_
  refine wpAny_landsW held fun h4 fl4 us4 => ?_
  have I4 := st h4 fl4 (us3.trans us4)
  obtain ⟨ob, hob, hobc⟩ := fl4.there
  refine wpAny_handleBy_cons (codeAny_handlers_test (ld_glob (X := X.marked (.ref a)) I4.mark hg hm ?_ hdb)) (by intro q; cases q)
  obtain ⟨⟨bE, nE, qD, hB⟩, hall⟩ := tk
  obtain ⟨⟨bC, nC, qC⟩, hcD⟩ := hall c okc
  have k4 : ∀ b o, X.base.get? b = some o → h4.get? b = some o := fun b o e => (I4.bs b o e).1
  refine matches_own ((own_obj I.ok.mod.kin qC).keeps k4) ((own_obj I.ok.mod.kin qD).keeps k4) hob hobc hB hcD ?_
  refine codeAny_handlers_suite ?_
  refine lands_againW fl4 fun h5 fl5 us5 => ?_
  have I5 := st h5 fl5 ((us3.trans us4).trans us5)
  refine wpAny_mono (hs a pins _ _ _ D I5.mark (hts a hHa)) (fun f s7 q => ?_) fun _ _ z => z.elim
  cases f with
  | next =>
    obtain ⟨σ', H', I', q⟩ := q
    exact ⟨_, _, I'.unmark I.ok, q⟩
  | brk =>
    obtain ⟨σ', H', I', q⟩ := q
    exact ⟨_, _, I'.unmark I.ok, q⟩
  | cont =>
    obtain ⟨σ', H', I', q⟩ := q
    exact ⟨_, _, I'.unmark I.ok, q⟩
  | ret v =>
    obtain ⟨y, σ', H', I', r, q⟩ := q
    exact ⟨y, _, _, I'.unmark I.ok, r, q⟩
end
end L2
/-! OWN RULES over the hand layer: isinstance of a caught exception -/
namespace L2
open PySem PySem.Spec PyProof.Rows

/-- what is asked of the class -/
structure ExcLook (K : PySem.W.Frag) (C : Addr) : Prop where
  own : ∃ bmB nid, PySem.W.excIn K C bmB nid = true ∧ bmB.contains (.type "BaseException") = true ∧ bmB.contains (.type "object") = true
  ga : PySem.W.findIn K (.ref C) "__getattribute__" = some (some (.builtin "BaseException.__getattribute__"))
  nga : PySem.W.findIn K (.ref C) "__getattr__" = some none
  cl : PySem.W.findIn K (.ref C) "__class__" = some (some (.builtin "object.__class__"))

section
variable {prog : Program} {w : World} {A : Around} {E : Value → Shared → Prop} {h : Heap} {g : Array GenState} {d : Drawn} {t : Nat} {os : OsState} {a C : Addr} {o : Obj} {bm bmB : List Value} {nid : String}
theorem xc_get {R : Result → Shared → Prop} (hC : OwnAt h C bm bmB nid) (hO : bmB.contains (.type "object") = true) (hx : h.get? a = some o) (hc : o.cls = .ref C) (hq : R (.ok (.ret (.ref C))) ⟨h, g, d, t, os⟩) :
    codeAny (model prog w) A (.call (.builtin "getset_descriptor.__get__") ⟨[.builtin "object.__class__", .ref a, .ref C], []⟩) R ⟨h, g, d, t, os⟩ := by
  obtain ⟨_, _, _, _, _, _, _, _, _, _, _, _, _, _, _, _, oC, _, _, T⟩ := hC
  have ty5 : Shared.TypeIs ⟨h, g, d, t, os⟩ (.builtin "object.__class__") "getset_descriptor" := F.typeOf_object_class
  have hcO : (Value.ref C :: bm).contains (.type (".".intercalate ("object.__class__".cutAt '.').dropLast)) = true := by
    rw [F.owner_object_class, List.contains_cons, T.hasType hO, Bool.or_true]
  refine codeAny_call_builtin F.slot_gs_get.plain F.entry_gs_get
    (F.slot_gs_get.check _ _ _ _ _ _ _ _ ty5 (F.args_gs_get _ _ _) ?_)
  repeat (any_goals (first | assumption | (with_reducible refine wpAny_loadPart_at hx ?_; rw [hc]) | (with_reducible refine wpAny_isSubtype_exc oC ?_; rw [hcO]) | wp_step))
  refine ⟨Code.quiet_builtin _ (by decide +kernel),
    codeAny_builtin F.entry_object_class ?_⟩
  repeat (any_goals (first | assumption | (with_reducible refine wpAny_loadPart_at hx ?_; rw [hc]) | wp_step))
theorem xc_entry {tk : Tok} {Q : Fin → Shared → Prop} {K : PySem.W.Frag} (X : K.In h) (L : ExcLook K C) (hC : OwnAt h C bm bmB nid) (hO : bmB.contains (.type "object") = true) (hx : h.get? a = some o) (hc : o.cls = .ref C) (hq : Q (.done (.ret (.ref C))) ⟨h, g, d, t, os⟩) :
    wpAny (model prog w) A (Builtin.«object.__getattribute__» ⟨[Value.ref a, .str "__class__" tk], []⟩) Q E ⟨h, g, d, t, os⟩ := by
  have ty5 : Shared.TypeIs ⟨h, g, d, t, os⟩ (.builtin "object.__class__") "getset_descriptor" := F.typeOf_object_class
  have ofCls := F.typeOf_object_class
  have ofGet := F.slot_gs_get.lookup
  have ofSet := F.slot_gs_set.lookup
  have lk := PySem.W.looks_findIn (M := model prog w) X L.cl
  repeat (any_goals (first | assumption | (with_reducible refine wpAny_loadPart_at hx ?_; rw [hc]) | with_reducible refine lk.at ?_ | wp_step))
  refine xc_get hC hO hx hc ?_
  repeat (any_goals (first | assumption | wp_step))
theorem xc_check {M : Model} {nv : Value} {Q : Unit → Shared → Prop} (hC : OwnAt h C bm bmB nid) (hB : bmB.contains (.type "BaseException") = true) (hx : h.get? a = some o) (hc : o.cls = .ref C) (hq : Q () ⟨h, g, d, t, os⟩) :
    wpAny M A (checkBuiltinCall "BaseException.__getattribute__" ⟨[.ref a, nv], []⟩) Q E ⟨h, g, d, t, os⟩ := by
  obtain ⟨_, _, _, _, _, _, _, _, _, _, _, _, _, _, _, _, oC, _, _, T⟩ := hC
  have k1 : builtinKind "BaseException.__getattribute__" = some .slot := by decide +kernel
  have k2 : splitId "BaseException.__getattribute__" = some ("BaseException", "__getattribute__") := by decide +kernel
  have k3 : (Value.ref C :: bm).contains (.type "BaseException") = true := by rw [List.contains_cons, T.hasType hB, Bool.or_true]
  have k4 := F.args_bexc_ga (.ref a) nv
  simp only [checkBuiltinCall, k1, k2]
  refine wpAny_bind ?_
  unfold isInstance
  repeat (first | (with_reducible refine wpAny_loadPart_at hx ?_; rw [hc]) | (with_reducible refine wpAny_isSubtype_exc oC ?_; rw [k3]) | wp_step)
  exact hq
theorem xc_call {tk : Tok} {R : Result → Shared → Prop} {K : PySem.W.Frag} (X : K.In h) (L : ExcLook K C) (hC : OwnAt h C bm bmB nid) (hB : bmB.contains (.type "BaseException") = true) (hO : bmB.contains (.type "object") = true) (hx : h.get? a = some o) (hc : o.cls = .ref C) (hq : R (.ok (.ret (.ref C))) ⟨h, g, d, t, os⟩) :
    codeAny (model prog w) A (.call (.builtin "BaseException.__getattribute__") ⟨[.ref a, .str "__class__" tk], []⟩) R ⟨h, g, d, t, os⟩ :=
  codeAny_call_builtin F.excAttr_ValueError.ga.plain F.entry_bexc_ga (xc_check hC hB hx hc (xc_entry X L hC hO hx hc hq))
theorem xc_by {tk : Tok} {Q : Value → Shared → Prop} {K : PySem.W.Frag} (X : K.In h) (L : ExcLook K C) (hC : OwnAt h C bm bmB nid) (hB : bmB.contains (.type "BaseException") = true) (hO : bmB.contains (.type "object") = true) (hx : h.get? a = some o) (hc : o.cls = .ref C) (hq : Q (.ref C) ⟨h, g, d, t, os⟩) :
    wpAny (model prog w) A (getAttrBy (.ref a) (.str "__class__" tk) false) Q E ⟨h, g, d, t, os⟩ := by
  have f3 := F.excAttr_ValueError.ga.bind (.ref a)
  have ne1 : (Value.builtin "BaseException.__getattribute__" == .builtin "object.__getattribute__") = false := by decide +kernel
  have ne2 : (onTheHeap (.ref C) && Value.builtin "BaseException.__getattribute__" == .builtin "object.__getattribute__") = false := by rw [ne1, Bool.and_false]
  have l1 := PySem.W.looks_findIn (M := model prog w) X L.ga
  have l2 := PySem.W.looks_findIn (M := model prog w) X L.nga
  repeat (any_goals (first | assumption | (with_reducible refine wpAny_loadPart_at hx ?_; rw [hc]) | with_reducible refine l1.at ?_ | with_reducible refine l2.at ?_ | wp_step))
  refine xc_call X L hC hB hO hx hc ?_
  repeat (any_goals (first | assumption | wp_step))
theorem xc_attr {Q : Option Value → Shared → Prop} {K : PySem.W.Frag} (X : K.In h) (L : ExcLook K C) (hC : OwnAt h C bm bmB nid) (hB : bmB.contains (.type "BaseException") = true) (hO : bmB.contains (.type "object") = true) (hx : h.get? a = some o) (hc : o.cls = .ref C)
    (hq : Q (some (.ref C)) ⟨h, g, d, t + 1, os⟩) : wpAny (model prog w) A (getAttr? (.ref a) "__class__") Q E ⟨h, g, d, t, os⟩ := by
  unfold getAttr? getAttrBy?
  repeat (any_goals (first | assumption | with_reducible apply xc_by X L hC hB hO hx hc | wp_step))
end
/-- what isinstance asks of it -/
theorem kitx_exc {K : PySem.W.Frag} {a C : Addr} (L : ExcLook K C) : PySem.W.KitX K (.ref a) (.ref C) (fun h => ∃ o, h.get? a = some o ∧ o.cls = .ref C) where
  ty := fun M h _ ⟨o, e, c⟩ => c ▸ (PySem.W.Looks.ld e).andThen .now
  it := fun M h X _ => by
    obtain ⟨_, _, q, _, _⟩ := L.own
    obtain ⟨_, _, _, _, _, _, _, _, _, _, _, _, _, _, _, _, oC, _⟩ := own_obj X q
    intro A' Q' E' s' k z
    unfold isType loadHead
    exact wpAny_bind (wpAny_loadPart (k _ _ oC) (wpAny_pure z))
  ne := fun h tp dd its n sl X e => by
    obtain ⟨_, _, q, _, _⟩ := L.own
    obtain ⟨_, _, _, _, _, _, _, _, _, _, _, _, _, _, _, _, oC, _⟩ := own_obj X q
    refine Bool.eq_false_iff.mpr fun z => ?_
    have e2 : C = tp := Value.ref.inj (beq_iff_eq.mp z)
    subst e2
    have z2 : Value.type "type" = Value.type "tuple" := congrArg (fun x : Option Obj => x.elim Value.none Obj.cls) (oC.symm.trans e)
    exact absurd (Value.type.inj z2) (by decide)
  ca := fun {prog w A E Q s} X ⟨o, e, c⟩ k => by
    obtain ⟨_, _, q, hB, hO⟩ := L.own
    obtain ⟨h, g, d, t, os⟩ := s
    exact xc_attr X L (own_obj X q) hB hO e c k

section
variable {X : Cx} {pins : List (Addr × Obj)} {σ : St} {H : Hp} {s : Shared}
theorem isx_ok {A : Around} {E : Value → Shared → Prop} {Q : Value → Shared → Prop} {a C : Addr} {c : Value} {b : Bool} (I : Inv X pins σ H s) (ea : H a = some (ExcO a (.ref C))) (L : ExcLook X.K C) (e : PySem.W.kitOne X.K (.ref C) c = some b) (h : ∀ tk, Q (.bool b) { s with toks := tk }) :
    wpAny (model X.prog X.w) A (call (.builtin "isinstance") [.ref a, c]) Q E s := by
  obtain ⟨p, _, _⟩ := (show ObjOk X.prog X.w H s.heap a (ExcO a (.ref C)) from I.hok a _ ea)
  exact PySem.W.kia_one (kitx_exc L) I.kIn p e (fun z => nomatch z) h
/-- a class as it stands in a call -/
def IsCls (y : V) (c : Value) : Prop := (∃ T, y = .ty T ∧ c = .type T) ∨ ∃ D, y = .ref D ∧ c = .ref D
theorem k_isx {K : PySem.W.Frag} (hK : X.K = K := by rfl) : CallR X (.builtin "isinstance") (fun xs H Q => ∃ a y c C b, xs = [.ref a, y] ∧ IsCls y c ∧ H a = some (ExcO a (.ref C)) ∧ ExcLook K C ∧ PySem.W.kitOne K (.ref C) c = some b ∧ Q (.bl b) H) := by
  subst hK
  intro pins s σ H xs us Q I r h
  obtain ⟨a, y, c, C, b, rfl, hy, ea, L, e, q⟩ := h
  obtain ⟨u, v, rfl, ru, rv⟩ := vals2 r
  cases ru
  have hc : v = c := by
    rcases hy with ⟨T, rfl, rfl⟩ | ⟨D, rfl, rfl⟩
    · exact (show v = Value.type T from rv)
    · exact (show v = Value.ref D from rv)
  subst hc
  exact isx_ok I ea L e fun tk => ⟨.bl b, H, I.tok _, rfl, q⟩
end
end L2
/-! OWN RULES over the hand layer: slices of texts, walks over texts -/
namespace L2
open PySem PySem.Spec PyProof.Rows

section
variable {X : Cx} {tg : Expr}
/-! ### t[lo:hi] of a text -/
def rSlS : V → Option Int → Option Int → Hp → VK → Prop := fun x lo hi H Q => ∃ z, x = .str z ∧ z.length ≤ sizeLine ∧ Q (.str (Txt.slice z lo hi)) H
theorem part_of {v : Value} {k : Option Int} (p : IsPart v k) : ∃ o : Option (Int × Tok), partValue o = v ∧ o.map (·.1) = k := by
  cases p with
  | none => exact ⟨none, rfl, rfl⟩
  | int i t => exact ⟨some (i, t), rfl, rfl⟩
theorem sl_str : SlR X rSlS := by
  intro pins s σ H x v vl vu lo hi sl Q I rx hs pl pu h
  obtain ⟨z, rfl, hz, q⟩ := h
  obtain ⟨t, rfl⟩ := rx
  obtain ⟨l, el, ml⟩ := part_of pl
  obtain ⟨u, eu, mu⟩ := part_of pu
  refine ⟨"str", _, F.slot_str_getitem.lookup, typeIs_str _ _ _, ?_⟩
  obtain ⟨o, h1, h2, h3⟩ := hs
  refine wpAny_getItem_str_slice (l := l) (u := u) (st := none) ⟨o, h1, h2, by rw [el, eu]; exact h3⟩ rfl ?_
  have e : sliceMade z t l u none = if ((1 : Int) == 1 && (Builtin.Str.strSliceIndices lo hi 1 z.length).length == z.length) = true then .val (.str z t) else .str ⟨((Builtin.Str.strSliceIndices lo hi 1 z.length).filterMap (z.cps[·]?)).toArray⟩ := by
    subst ml mu; rfl
  rw [e]
  refine post_val_or_str ⟨Nat.le_trans (Txt.slice_le z lo hi) hz, fun t' k => ?_⟩
  exact ⟨.str (Txt.slice z lo hi), H, I.tok _, ⟨_, rfl⟩, q⟩

/-! ### the signs of a text -/
def Its (z : Str) : It := ⟨fun i _ => i < z.length, fun i H x H' => H' = H ∧ ∃ c, z.cps[i]? = some c ∧ x = .str ⟨#[c]⟩, fun i _ => z.length ≤ i⟩
theorem turn_str {P : Program} {w : World} {K : PySem.W.Frag} (z : Str) (t : Tok) (it : Addr) (n : String) (hn : n = "str_ascii_iterator" ∨ n = "str_iterator") : Turn P w K tg (Its z) [it] it (fun i h => h.IsStrIter it n z t i) where
  mem := by simp
  obj := fun i h st b hb => by
    have e : b = it := by simpa using hb
    subst e
    obtain ⟨o, e, c, d⟩ := st
    exact ⟨o, e, fun v z => by rw [d] at z; cases z⟩
  keep := fun i h h' st k => by
    obtain ⟨o, e, c⟩ := st
    exact ⟨o, k it (by simp) o e, c⟩
  item := by
    intro X hP hw hK hc i pins s σ H E I hf st hg
    subst hP hw hK
    obtain ⟨f0, f1, f2, f3, f4, f5⟩ := hf it (by simp)
    have hi : i < z.cps.size := hg
    have hx : z.cps[i]? = some z.cps[i] := by simp [hi]
    have fin : ∀ h', h'.IsStrIter it n z t (i + 1) → Heap.SameBut it s.heap h' → ∃ u, some (Value.str ⟨#[z.cps[i]]⟩ s.toks) = some u ∧
        wpAny (model X.prog X.w) X.A (letOwnedTupleGo tg (.ref it) u) (fun _ s2 => ∃ x H', Inv X pins σ H' s2 ∧ RelV x u ∧ (Its z).yld i H x H' ∧ s2.heap.IsStrIter it n z t (i + 1) ∧ ∀ b ∈ [it], H' b = none) E { s with heap := h', toks := s.toks + 1 } := fun h' st' sb => by
      have I1 : Inv X pins σ H { s with heap := h', toks := s.toks + 1 } := I.turned (fun b o hb e => (sb.2 b hb).trans e) f0 f1 f3 f4 f5
      obtain ⟨o, e, c, d⟩ := id st'
      exact ⟨_, rfl, go_of (s := { s with heap := h', toks := s.toks + 1 }) e c d (by rcases hn with rfl | rfl <;> decide) ⟨.str ⟨#[z.cps[i]]⟩, H, I1, ⟨_, rfl⟩, ⟨rfl, _, hx, rfl⟩, st', fun b hb => (hf b hb).1⟩⟩
    rcases hn with rfl | rfl
    · exact wpAny_pyNext_ascii_item st hx fin
    · exact wpAny_pyNext_wide_item st hx fin
  done := by
    intro X hP hw hK hc i pins s σ H E I hf st hg
    subst hP hw hK
    obtain ⟨f0, f1, f2, f3, f4, f5⟩ := hf it (by simp)
    have hx : z.cps[i]? = none := by simpa using (show z.cps.size ≤ i from hg)
    rcases hn with rfl | rfl
    · exact wpAny_pyNext_ascii_end (I.ok.hd hc) st hx fun h' eb => ⟨rfl, I.turned (t' := s.toks) (fun b o hb e => eb b o hb e) f0 f1 f3 f4 f5⟩
    · exact wpAny_pyNext_wide_end (I.ok.hd hc) st hx fun h' eb => ⟨rfl, I.turned (t' := s.toks) (fun b o hb e => eb b o hb e) f0 f1 f3 f4 f5⟩
  self := fun _ _ _ _ _ st h => by
    rcases hn with rfl | rfl
    · exact wpAny_pyIter_striter_ascii st h
    · exact wpAny_pyIter_striter_wide st h
def iStr (tl : TE) : TI := fun σ H R => tl σ H fun x H1 => ∃ z, x = .str z ∧ R (Its z) H1
theorem pi_str {l : Expr} {tl : TE} (hl : PE X l tl) : PI X tg l (iStr tl) := by
  intro pins s σ H R I h
  refine thn (hl pins s σ H _ I h) fun v s1 ⟨x, H1, I1, r1, q1⟩ => ?_
  obtain ⟨z, rfl, q⟩ := q1
  obtain ⟨t, rfl⟩ := r1
  have fin : ∀ n : String, (n = "str_ascii_iterator" ∨ n = "str_iterator") → PIE X pins σ tg R (.ref s1.heap.objs.size) { s1 with heap := s1.heap.push { cls := .type n, data := .fields #[.str z t, .int 0 0] } } := fun n hn => by
    refine ⟨s1.heap.objs.size, [s1.heap.objs.size], _, _, H1, rfl, I1.kept (t' := s1.toks) fun b o e => Heap.get?_push_of_some _ e, turn_str z t _ n hn, ⟨_, Heap.get?_push_size _ rfl, rfl, rfl⟩, fun b hb => ?_, q⟩
    have e : b = s1.heap.objs.size := by simpa using hb
    subst e
    exact I1.fpOk (Nat.le_refl _) (I1.hok.fresh (Nat.le_refl _))
  cases ha : z.cps.all (· < 128)
  · exact wpAny_pyIter_wide ha (fin _ (.inr rfl))
  · exact wpAny_pyIter_ascii ha (fin _ (.inl rfl))
end
end L2
/-! OWN RULES over the hand layer: all of a list of truths, texts with braces -/
namespace L2
open PySem PySem.Spec PyProof.Rows

section
variable {X : Cx}
theorem truths_at {bs : List Bool} {its : List Value} (r : Vals (bs.map V.bl) its) {i : Nat} {v : Value} (e : its[i]? = some v) : v = .bool (bs.getD i false) := by
  have hl := r.length
  obtain ⟨hi, _⟩ := List.getElem?_eq_some_iff.mp e
  have hb : i < bs.length := by rw [List.length_map] at hl; omega
  have hx : (bs.map V.bl)[i]? = some (V.bl (bs.getD i false)) := by simp [hb]
  obtain ⟨u, e2, ru⟩ := r.get hx
  rw [e] at e2; cases e2
  exact ru
theorem range_all (bs : List Bool) : ((List.range bs.length).all fun i => bs.getD i false) = bs.all id := by
  rw [Bool.eq_iff_iff, List.all_eq_true, List.all_eq_true]
  constructor
  · intro h x hx
    obtain ⟨i, hi, e⟩ := List.getElem_of_mem hx
    have := h i (List.mem_range.mpr hi)
    simpa [List.getD_eq_getElem?_getD, List.getElem?_eq_getElem hi, e] using this
  · intro h i hi
    have hi := List.mem_range.mp hi
    have := h bs[i] (List.getElem_mem hi)
    simpa [List.getD_eq_getElem?_getD, List.getElem?_eq_getElem hi] using this
/-- all(xs), xs a list of truths -/
theorem call_allL (hc : X.calm = true) : CallR X (.builtin "all") (fun xs H Q => ∃ (p : Addr) (bs : List Bool), xs = [.ref p] ∧ SqL X.K H p (bs.map V.bl) ∧ Q (.bl (bs.all id)) H) := by
  intro pins s σ H vs us Q I r h
  obtain ⟨p, bs, rfl, hS, q⟩ := h
  obtain ⟨u, rfl, ru⟩ := vals1 r
  cases ru
  obtain ⟨its, rv, pl, hz⟩ := I.list hS
  have hl : its.length = bs.length := by have := rv.length; rw [List.length_map] at this; omega
  refine call_all_walk (wpAny_pyIter_list pl.isList ?_)
  obtain ⟨ol, el, cl, dl⟩ := id pl.isList
  have hpne : p ≠ s.heap.objs.size := Nat.ne_of_lt (Heap.lt_size el)
  have W := Walks.list (prog := X.prog) (w := X.w) (A := X.A.in1) (show X.A.in1.handled = none from I.ok.hd hc) s.heap.objs.size p hpne its.toArray
  refine ⟨s.heap.objs.size, [s.heap.objs.size, p], [s.heap.objs.size], its.toArray.size, _, _, fun i => bs.getD i false, rfl, W, ⟨⟨_, Heap.get?_push_size _ rfl, rfl, rfl⟩, ⟨ol, Heap.get?_push_of_some _ el, cl, dl⟩⟩, ?_, ?_⟩
  · intro i v s' Q' E' hP hQ
    have e : v = .bool (bs.getD i false) := truths_at rv (by simpa using hP)
    subst e
    exact wpAny_pure hQ
  · intro h' tk hk
    have e : ((List.range its.toArray.size).all fun i => bs.getD i false) = bs.all id := by
      rw [List.size_toArray, hl]; exact range_all bs
    rw [e]
    refine ⟨.bl (bs.all id), H, I.kept (t' := tk) fun b o e => hk b o (fun z => ?_) (Heap.get?_push_of_some _ e), rfl, q⟩
    have z' : b = s.heap.objs.size := by simpa using z
    subst z'
    exact absurd (Heap.lt_size e) (Nat.lt_irrefl _)
/-! ### f'..' -/
/-- one part of a text with braces; its value is not followed, only that it is a text of no more than a million signs -/
def PP (X : Cx) (e : Expr) (t : St → Hp → (Hp → Prop) → Prop) : Prop :=
  ∀ (pins : List (Addr × Obj)) (s : Shared) (σ : St) (H : Hp) (R : Hp → Prop), Inv X pins σ H s → t σ H R →
    wpAny (model X.prog X.w) X.A (eval e X.env) (fun v s1 => ∃ y u H1, v = .str y u ∧ y.length ≤ 1000000 ∧ Inv X pins σ H1 s1 ∧ R H1) X.xe s
def PJ (X : Cx) (es : List Expr) (t : St → Hp → (Hp → Prop) → Prop) : Prop :=
  ∀ (pins : List (Addr × Obj)) (s : Shared) (σ : St) (H : Hp) (acc : Str) (R : Hp → Prop) (Q : Str → Shared → Prop), Inv X pins σ H s → t σ H R → acc.length + es.length * 1000000 ≤ sizeLine →
    (∀ H' out s', R H' → out.length ≤ sizeLine → Inv X pins σ H' s' → Q out s') → Joins (model X.prog X.w) X.A X.xe (evalEach es X.env) acc Q s
variable {e v1 v2 : Expr} {es : List Expr} {te : TE} {tp t : St → Hp → (Hp → Prop) → Prop} {pos : Pos}
theorem pj_nil : PJ X [] (fun _ H R => R H) := by
  intro pins s σ H acc R Q I h hl hQ
  exact hQ H acc s h (by simpa using hl) I
theorem pj_cons (hp : PP X e tp) (h : PJ X es t) (he : evalEach (e :: es) X.env = eval e X.env :: evalEach es X.env := by rfl) : PJ X (e :: es) (fun σ H R => tp σ H fun H1 => t σ H1 R) := by
  intro pins s σ H acc R Q I hh hl hQ
  rw [he]
  refine thn (hp pins s σ H _ I hh) fun v s1 ⟨y, u, H1, ev, hy, I1, q⟩ => ⟨y, u, ev, ?_, ?_⟩
  · rw [strLen_append]; rw [List.length_cons] at hl; omega
  · refine h pins s1 σ H1 _ R Q I1 q ?_ hQ
    rw [strLen_append]; rw [List.length_cons] at hl; omega
theorem pp_str {z : Str} {j : _} (hz : z.length ≤ 1000000) : PP X (.Constant (.str z) j pos) (fun _ H R => R H) :=
  fun _ _ _ H _ I h => Calls.Constant_str ⟨z, _, H, rfl, hz, I.tok _, h⟩
theorem pp_int (he : PE X e te) : PP X (.FormattedValue e (-1) none pos) (fun σ H R => te σ H fun x H1 => ∃ i : Int, x = .int i ∧ i.natAbs.log2 < 1920 ∧ (Str.ofString (toString i)).length ≤ 1000000 ∧ R H1) := by
  intro pins s σ H R I h
  refine wpAny_FormattedValue_plain (thn (he pins s σ H _ I h) fun v s1 ⟨x, H1, I1, r1, i, ex, h1, h2, q⟩ => ?_)
  subst ex
  obtain ⟨t, rfl⟩ := r1
  exact wpAny_formatField_int h1 ⟨_, _, H1, rfl, h2, I1.tok _, q⟩
theorem pp_txt (he : PE X e te) : PP X (.FormattedValue e (-1) none pos) (fun σ H R => te σ H fun x H1 => ∃ z, x = .str z ∧ z.length ≤ 1000000 ∧ R H1) := by
  intro pins s σ H R I h
  refine wpAny_FormattedValue_plain (thn (he pins s σ H _ I h) fun v s1 ⟨x, H1, I1, r1, z, ex, h2, q⟩ => ?_)
  subst ex
  obtain ⟨t, rfl⟩ := r1
  exact wpAny_formatField_str ⟨_, _, H1, rfl, h2, I1, q⟩ ⟨_, _, H1, rfl, h2, I1.tok _, q⟩ (Nat.le_trans h2 (by decide))
theorem pp_repr (he : PE X e te) : PP X (.FormattedValue e 114 none pos) (fun σ H R => te σ H fun x H1 => ∃ z, x = .str z ∧ (reprText z).length ≤ 1000000 ∧ R H1) := by
  intro pins s σ H R I h
  refine wpAny_FormattedValue_repr (thn (he pins s σ H _ I h) fun v s1 ⟨x, H1, I1, r1, z, ex, h2, q⟩ => ?_)
  subst ex
  obtain ⟨t, rfl⟩ := r1
  have hz : (reprText z).length ≤ sizeLine := Nat.le_trans h2 (by decide)
  refine wpAny_pyReprObj_gives (typeIs_str _ _ _) F.slot_str_repr F.entry_str_repr (F.args_str_repr_1 _) (gives_str_repr z t) ?_ rfl hz
  exact wpAny_formatField_str ⟨_, _, H1, rfl, h2, I1.tok _, q⟩ ⟨_, _, H1, rfl, h2, (I1.tok _).tok _, q⟩ hz
/-- f'..': a text that is not followed -/
def tFstr (t : St → Hp → (Hp → Prop) → Prop) : TE := fun σ H Q => t σ H fun H' => ∀ z : Str, z.length ≤ sizeLine → Q (.str z) H'
theorem pe_fstr (h : PJ X (v1 :: v2 :: es) t) (hl : (v1 :: v2 :: es).length * 1000000 ≤ sizeLine := by decide) : PE X (.JoinedStr (v1 :: v2 :: es) pos) (tFstr t) := by
  intro pins s σ H Q I hh
  refine wpAny_JoinedStr (h pins s σ H Str.empty _ _ I hh (by simpa [Str.length, Str.empty] using hl) fun H' out s' q ho I' => ⟨ho, .str out, H', I'.tok _, ⟨_, rfl⟩, q out ho⟩)
end
end L2
/-! OWN RULES over the hand layer: own classes of exceptions at the top, texts cut in lists of signs -/
namespace L2
open PySem PySem.Spec PyProof.Rows

theorem bt_ValueError : bootBuiltins "ValueError" = some (.type "ValueError") := by decide +kernel
/-- an own class of exceptions over ValueError -/
structure XCls (K : PySem.W.Frag) (mg : Str → Option Value) (x : Str) (C : Addr) : Prop where
  q : PySem.W.excIn K C [.type "ValueError", .type "Exception", .type "BaseException", .type "object"] "ValueError.__new__" = true
  m : mg x = some (.ref C)
theorem XCls.look {K : PySem.W.Frag} {mg : Str → Option Value} {x : Str} {C : Addr} (c : XCls K mg x C) (ga : PySem.W.findIn K (.ref C) "__getattribute__" = some (some (.builtin "BaseException.__getattribute__"))) (nga : PySem.W.findIn K (.ref C) "__getattr__" = some none)
    (cl : PySem.W.findIn K (.ref C) "__class__" = some (some (.builtin "object.__class__"))) : ExcLook K C := ⟨⟨_, _, c.q, by decide, by decide⟩, ga, nga, cl⟩

section
variable {X : Cx} {K : PySem.W.Frag}
theorem k_all (hc : X.calm = true) (hK : X.K = K := by rfl) : CallR X (.builtin "all") (fun xs H Q => ∃ (p : Addr) (bs : List Bool), xs = [.ref p] ∧ SqL K H p (bs.map V.bl) ∧ Q (.bl (bs.all id)) H) := by subst hK; exact call_allL hc
end
theorem comp_str {z : Str} {caps : List Nat} {tt : TT} {te : TE} {σ : St} {H : Hp} {R : List V → Hp → Prop} (Pv : Nat → List V → Hp → Prop) (h0 : Pv 0 [] H) (hl : ∀ i ys H, i ≤ z.length → Pv i ys H → ys.length ≤ sizeLine)
    (hs : ∀ i c ys H, z.cps[i]? = some c → Pv i ys H → tt (capσ caps σ (some (.str ⟨#[c]⟩))) H fun b H2 => if b = true then te (capσ caps σ (some (.str ⟨#[c]⟩))) H2 fun y H3 => Pv (i + 1) (ys ++ [y]) H3 else Pv (i + 1) ys H2) (hd : ∀ ys H, Pv z.length ys H → R ys H) :
    ∃ W : Nat → Nat → List V → Hp → Prop, (∃ m, W 0 m [] H) ∧ ∀ i m ys H, W i m ys H → ys.length ≤ sizeLine ∧ (((Its z).stop i H ∧ R ys H) ∨ ((Its z).go i H ∧ ∃ N : List V → Hp → Prop, (∀ ys' H', N ys' H' → ∃ m', m' < m ∧ W (i + 1) m' ys' H') ∧ ∀ v H', (Its z).yld i H v H' →
      tt (capσ caps σ (some v)) H' fun b H2 => if b = true then te (capσ caps σ (some v)) H2 fun y H3 => N (ys ++ [y]) H3 else N ys H2)) := by
  refine ⟨fun i m ys H => m = z.length - i ∧ i ≤ z.length ∧ Pv i ys H, ⟨z.length, by simp, Nat.zero_le _, h0⟩, ?_⟩
  rintro i m ys H ⟨rfl, hi, p⟩
  refine ⟨hl i ys H hi p, ?_⟩
  by_cases hlt : i < z.length
  · refine .inr ⟨hlt, Pv (i + 1), fun ys' H' p' => ⟨z.length - (i + 1), by omega, rfl, hlt, p'⟩, fun x H' y => ?_⟩
    obtain ⟨e, c, hc, y⟩ := y
    subst e y
    exact hs i c ys _ hc p
  · have e : i = z.length := by omega
    subst e
    exact .inl ⟨Nat.le_refl _, hd ys H p⟩

/-! ### texts as lists of signs -/
abbrev tx (l : List Nat) : Str := ⟨l.toArray⟩
theorem tx_len (l : List Nat) : (tx l).length = l.length := by simp [Str.length]
theorem tx_app (a b : List Nat) : tx a ++ tx b = tx (a ++ b) := by
  show Str.append _ _ = _
  simp [Str.append]
theorem tx_inj {a b : List Nat} (h : tx a = tx b) : a = b := by
  have := congrArg (fun s : Str => s.cps.toList) h
  simpa using this
theorem tx_of (z : Str) : ∃ l, z = tx l := ⟨z.cps.toList, by cases z; simp⟩
theorem tx_dec (a b : List Nat) : decide (V.str (tx a) = V.str (tx b)) = decide (a = b) := by
  rw [decide_eq_decide]
  exact ⟨fun h => tx_inj (V.str.inj h), fun h => by rw [h]⟩
theorem in_one (l : List Nat) (c : Nat) : (!(Builtin.Str.occurrences (tx l) (tx [c]) 0 (tx l).length 1).isEmpty) = decide (c ∈ l) := by
  have := StrLaws.found_one (tx l) c
  simpa using this
theorem slice_lo_hi {l : List Nat} {a b : Nat} (hab : a ≤ b) (ha : a ≤ l.length) : Txt.slice (tx l) (some (a : Int)) (some (b : Int)) = tx ((l.drop a).take (b - a)) := by
  have hs : ∀ b', a ≤ b' → b' ≤ l.length → Txt.slice (tx l) (some (a : Int)) (some (b' : Int)) = tx ((l.drop a).take (b' - a)) := fun b' h1 h2 => by
    have := StrLaws.sliceText_nat (tx l) h1 (by rw [tx_len]; exact h2)
    exact this
  by_cases hb : b ≤ l.length
  · exact hs b hab hb
  · have e : Txt.slice (tx l) (some (a : Int)) (some (b : Int)) = Txt.slice (tx l) (some (a : Int)) (some (l.length : Int)) := by
      have i : Builtin.Str.strSliceIndices (some (a : Int)) (some (b : Int)) 1 (tx l).length = Builtin.Str.strSliceIndices (some (a : Int)) (some (l.length : Int)) 1 (tx l).length := by
        rw [tx_len]
        have n1 : ¬ ((b : Int) < 0) := by omega
        have n2 : ¬ ((l.length : Int) < 0) := by omega
        have m1 : min (b : Int) (l.length : Int) = l.length := by omega
        have m2 : min (l.length : Int) (l.length : Int) = l.length := by omega
        simp [Builtin.Str.strSliceIndices, n1, n2, m1]
      unfold Txt.slice
      rw [i]
    rw [e, hs l.length ha (Nat.le_refl _)]
    congr 1
    have e1 : (l.drop a).length = l.length - a := List.length_drop
    rw [List.take_of_length_le (by omega), List.take_of_length_le (by omega)]
theorem slice_from {l : List Nat} {a : Nat} (ha : a ≤ l.length) : Txt.slice (tx l) (some (a : Int)) none = tx (l.drop a) := by
  have e : Txt.slice (tx l) (some (a : Int)) none = Txt.slice (tx l) (some (a : Int)) (some (l.length : Int)) := by
    unfold Txt.slice
    rw [StrLaws.sliceIdx_none_hi, tx_len]
  rw [e, slice_lo_hi ha ha]
  congr 1
  have e1 : (l.drop a).length = l.length - a := List.length_drop
  rw [List.take_of_length_le (by omega)]
theorem repr_short {l : List Nat} (h : ∀ c ∈ l, c < 16 ^ 8) : (reprText (tx l)).length ≤ 10 * l.length + 2 := by
  have := StrLaws.reprText_len (tx l) (by simpa using h)
  rw [tx_len] at this
  exact this
end L2
/-! OWN RULES over the hand layer: D.get(k, d) of a dict of the module; int('1') -/
namespace PySem
theorem meets_int_new_one (t : Tok) : Meets (Builtin.«int.__new__» ⟨[.type "int", .str ⟨#[49]⟩ t], []⟩) (Made.int 1).spec :=
  Meets.of_wp fun prog w A R s hs => by
    obtain ⟨hp, g, d, tk, os⟩ := s
    have f1 := F.conv_sub_int
    have f2 := F.madeHere_int
    have hT : (⟨hp, g, d, tk, os⟩ : Shared).TypeIs (.str ⟨#[49]⟩ t) "str" := rfl
    have f3 : typeLookup (.type "str") "__int__" = pure none := by rw [typeLookup_type, builtinLookup_eq_fast]; kernel_rfl
    have f4 : typeLookup (.type "str") "__index__" = pure none := by rw [typeLookup_type, builtinLookup_eq_fast]; kernel_rfl
    have f5 : typeLookup (.type "str") "__trunc__" = pure none := by rw [typeLookup_type, builtinLookup_eq_fast]; kernel_rfl
    repeat (any_goals (first | assumption | wp_step))
    all_goals try (with_unfolding_all show wpAny _ _ (mkInt 1 >>= _) _ _ _)
    repeat (any_goals (first | assumption | wp_step))
    all_goals first | exact ⟨_, rfl, hs⟩ | skip
end PySem
namespace L2
open PySem PySem.Spec PyProof.Rows
section
variable {X : Cx}
theorem call_int_txt : CallR X (.type "int") (fun xs H Q => (∃ k, xs = [.bl k] ∧ Q (.int (if k then 1 else 0)) H) ∨ ∃ z, xs = [.str z] ∧ z = tx [49] ∧ Q (.int 1) H) := by
  intro pins s σ H xs us Q I r h
  rcases h with ⟨k, rfl, q⟩ | ⟨z, rfl, rfl, q⟩
  · exact call_int1 pins s σ H _ us Q I r (.inr ⟨k, rfl, q⟩)
  · obtain ⟨u, rfl, t, rfl⟩ := vals1 r
    exact call_int_1 (meets_int_new_one t) (show (Made.int 1).post _ s from ⟨rfl, .int 1, H, I.tok _, ⟨_, rfl⟩, q⟩)
def tTopGet (w : World) (K : PySem.W.Frag) (td : TE) (t : TA) : TE := fun σ H Q => td σ H fun x H1 => ∃ a kvs, x = .ref a ∧ TopD w K a kvs ∧ t σ H1 fun vs H2 => ∃ k z, vs = [.str k, z] ∧ Q ((kvs.lookup k).getD z) H2
variable {o e f : Expr} {td : TE} {t : TA} {apos cpos : Pos} {K : PySem.W.Frag} {w : World}
theorem pe_getTop (ho : PE X o td) (ha : PA X [e, f] t) (hK : X.K = K := by rfl) (hw : X.w = w := by rfl)
    (hbase : attributeBase o "get" X.env (eval o X.env) = eval o X.env := by rfl)
    (hfew : ((backTo cpos (starEach [e, f] X.env)).all (fun x => !x.1) && (backToKw cpos (keywordEach [] X.env)).all (fun x => x.1.isSome)
      && decide ([e, f].length + ([] : List Keyword).length + (if ([] : List Keyword).isEmpty then 0 else 1) < 30)) = true := by rfl)
    (hline : (apos.endLine == cpos.line) = true := by rfl) (hs : starEach [e, f] X.env = (false, eval e X.env) :: starEach [f] X.env := by rfl) (hplain : (backTo cpos (starEach [f] X.env)).any (·.1) = false := by rfl) :
    PE X (.Call (.Attribute o "get" apos) [e, f] [] cpos) (tTopGet w K td t) := by
  subst hK; subst hw
  intro pins s σ H Q I h
  refine wpAny_Call_method_late hbase hfew hline rfl (thn (ho pins s σ H _ I h) fun v s1 ⟨x, H1, I1, r1, a, kvs, ex, T, q1⟩ => ?_)
  subst ex
  cases r1
  obtain ⟨f0, hm, hf⟩ := T.map (prog := X.prog) I1.kIn
  obtain ⟨es, n, hl, _, _⟩ := T.ex
  refine ⟨"dict", _, PySem.F.plainAttrs_dict, PySem.F.slot_dict_get, PySem.F.type_dict_get, hm.typeIs, fun b eb => ?_, ?_⟩
  · cases eb
    exact ⟨_, I1.kIn _ _ hl, rfl⟩
  have hA := ha cpos pins s1 σ H1 _ I1 q1
  rw [hs] at hA ⊢
  refine Calls.callWith_builtin (by show (false || (backTo cpos (starEach [f] X.env)).any (·.1)) = false; rw [hplain] <;> rfl) (Calls.evalArgs_plain (thn hA fun us s2 ⟨vs, H2, I2, r2, q2⟩ => ?_))
  obtain ⟨k, z, rfl, q⟩ := q2
  obtain ⟨u1, u2, rfl, ⟨t1, rfl⟩, rz⟩ := vals2 r2
  obtain ⟨f1, hm1, hf1⟩ := T.map (prog := X.prog) I2.kIn
  refine call_meetsIn PySem.F.slot_dict_get hm1.typeIs PySem.F.entry_dict_get (PySem.F.args_dict_get_3 _ _ _) (meets_dict_get_default (strKind X.prog X.w) a (strKind_is X.prog X.w k t1) T.lo u2) ⟨f1, hm1, _, H2, I2.tok _, ?_, q⟩
  have hr := hf1 k
  cases h1 : kvs.lookup k with
  | none => rw [h1] at hr; rw [hr.none_of]; exact rz
  | some y => rw [h1] at hr; obtain ⟨w', e', r'⟩ := hr.some_of; rw [e']; exact r'
end
end L2
/-! OWN RULES over the hand layer: any and sum of a list, a <= b <= c -/
namespace L2
open PySem PySem.Spec PyProof.Rows
section
variable {X : Cx} {K : PySem.W.Frag}
theorem range_any (bs : List Bool) : ((List.range bs.length).any fun i => bs.getD i false) = bs.any id := by
  rw [Bool.eq_iff_iff, List.any_eq_true, List.any_eq_true]
  constructor
  · rintro ⟨i, hi, h⟩
    have hi := List.mem_range.mp hi
    exact ⟨bs[i], List.getElem_mem hi, by simpa [List.getD_eq_getElem?_getD, List.getElem?_eq_getElem hi] using h⟩
  · rintro ⟨x, hx, h⟩
    obtain ⟨i, hi, e⟩ := List.getElem_of_mem hx
    exact ⟨i, List.mem_range.mpr hi, by simpa [List.getD_eq_getElem?_getD, List.getElem?_eq_getElem hi, e] using h⟩
theorem k_any (hc : X.calm = true) (hK : X.K = K := by rfl) : CallR X (.builtin "any") (fun xs H Q => ∃ (p : Addr) (bs : List Bool), xs = [.ref p] ∧ SqL K H p (bs.map V.bl) ∧ Q (.bl (bs.any id)) H) := by
  subst hK
  intro pins s σ H vs us Q I r h
  obtain ⟨p, bs, rfl, hS, q⟩ := h
  obtain ⟨u, rfl, ru⟩ := vals1 r
  cases ru
  obtain ⟨its, rv, pl, hz⟩ := I.list hS
  have hl : its.length = bs.length := by have := rv.length; rw [List.length_map] at this; omega
  refine call_any_walk (wpAny_pyIter_list pl.isList ?_)
  obtain ⟨ol, el, cl, dl⟩ := id pl.isList
  have hpne : p ≠ s.heap.objs.size := Nat.ne_of_lt (Heap.lt_size el)
  have W := Walks.list (prog := X.prog) (w := X.w) (A := X.A.in1) (show X.A.in1.handled = none from I.ok.hd hc) s.heap.objs.size p hpne its.toArray
  refine ⟨s.heap.objs.size, [s.heap.objs.size, p], [s.heap.objs.size], its.toArray.size, _, _, fun i => bs.getD i false, rfl, W, ⟨⟨_, Heap.get?_push_size _ rfl, rfl, rfl⟩, ⟨ol, Heap.get?_push_of_some _ el, cl, dl⟩⟩, ?_, ?_⟩
  · intro i v s' Q' E' hP hQ
    have e : v = .bool (bs.getD i false) := truths_at rv (by simpa using hP)
    subst e
    exact wpAny_pure hQ
  · intro h' tk hk
    have e : ((List.range its.toArray.size).any fun i => bs.getD i false) = bs.any id := by
      rw [List.size_toArray, hl]; exact range_any bs
    rw [e]
    refine ⟨.bl (bs.any id), H, I.kept (t' := tk) fun b o e => hk b o (fun z => ?_) (Heap.get?_push_of_some _ e), rfl, q⟩
    have z' : b = s.heap.objs.size := by simpa using z
    subst z'
    exact absurd (Heap.lt_size e) (Nat.lt_irrefl _)
theorem pre_nat (ns : List Nat) : ∀ j, j ≤ ns.length → preSum (fun i => ((ns.getD i 0 : Nat) : Int)) j = (((ns.take j).sum : Nat) : Int)
  | 0, _ => by simp [preSum]
  | j + 1, h => by
    have ih := pre_nat ns j (by omega)
    have hj : j < ns.length := by omega
    show preSum (fun i => ((ns.getD i 0 : Nat) : Int)) j + ((ns.getD j 0 : Nat) : Int) = _
    rw [ih, List.take_succ_eq_append_getElem hj, List.sum_append]
    simp [List.getD_eq_getElem?_getD, List.getElem?_eq_getElem hj]
theorem take_le (ns : List Nat) (j : Nat) : (ns.take j).sum ≤ ns.sum := by
  have h := congrArg List.sum (List.take_append_drop j ns)
  rw [List.sum_append] at h
  omega
theorem nats_at {ns : List Nat} {its : List Value} (r : Vals (ns.map fun n => V.int (n : Nat)) its) {i : Nat} {v : Value} (e : its[i]? = some v) : ∃ t, v = .int ((ns.getD i 0 : Nat) : Int) t := by
  have hl := r.length
  obtain ⟨hi, _⟩ := List.getElem?_eq_some_iff.mp e
  have hb : i < ns.length := by rw [List.length_map] at hl; omega
  have hx : (ns.map fun n => V.int (n : Nat))[i]? = some (V.int ((ns.getD i 0 : Nat) : Int)) := by simp [hb]
  obtain ⟨u, e2, ru⟩ := r.get hx
  rw [e] at e2; cases e2
  exact ru
theorem k_sum (hc : X.calm = true) (hK : X.K = K := by rfl) : CallR X (.builtin "sum") (fun xs H Q => ∃ (p : Addr) (ns : List Nat), xs = [.ref p] ∧ SqL K H p (ns.map fun n => V.int (n : Nat)) ∧ ns.sum ≤ 1000000 ∧ Q (.int (ns.sum : Nat)) H) := by
  subst hK
  intro pins s σ H vs us Q I r h
  obtain ⟨p, ns, rfl, hS, hfit, q⟩ := h
  obtain ⟨u, rfl, ru⟩ := vals1 r
  cases ru
  obtain ⟨its, rv, pl, hz⟩ := I.list hS
  have hl : its.length = ns.length := by have := rv.length; rw [List.length_map] at this; omega
  refine call_sum_walk (wpAny_pyIter_list pl.isList ?_)
  obtain ⟨ol, el, cl, dl⟩ := id pl.isList
  have hplt := Heap.lt_size el
  have hpne : p ≠ s.heap.objs.size := Nat.ne_of_lt hplt
  have W := Walks.list (prog := X.prog) (w := X.w) (A := X.A.in1) (show X.A.in1.handled = none from I.ok.hd hc) s.heap.objs.size p hpne its.toArray
  refine ⟨s.heap.objs.size, [s.heap.objs.size, p], [s.heap.objs.size], its.toArray.size, _, _, fun i => ((ns.getD i 0 : Nat) : Int), rfl, W, ⟨⟨_, Heap.get?_push_size _ rfl, rfl, rfl⟩, ⟨ol, Heap.get?_push_of_some _ el, cl, dl⟩⟩, ?_, ?_, ?_, ?_⟩
  · intro b hb
    simp only [List.mem_cons, List.not_mem_nil, or_false] at hb
    rw [Heap.size_push]
    rcases hb with rfl | rfl
    · exact Nat.lt_succ_self _
    · exact Nat.lt_succ_of_lt hplt
  · intro i v hP
    exact nats_at rv (by simpa using hP)
  · intro j hj
    have hj : j < ns.length := by rw [List.size_toArray, hl] at hj; exact hj
    have h1 := take_le ns (j + 1)
    have h2 := take_le ns j
    have e : (ns.take (j + 1)).sum = (ns.take j).sum + ns[j] := by rw [List.take_succ_eq_append_getElem hj, List.sum_append]; simp
    have hg : ns.getD j 0 = ns[j] := by simp [List.getD_eq_getElem?_getD, List.getElem?_eq_getElem hj]
    rw [pre_nat ns (j + 1) (by omega)]
    show InLong ((ns.getD j 0 : Nat) : Int) ∧ _
    rw [hg]
    unfold InLong
    omega
  · intro h' tk t' hk
    have e : preSum (fun i => ((ns.getD i 0 : Nat) : Int)) its.toArray.size = ((ns.sum : Nat) : Int) := by
      rw [List.size_toArray, hl, pre_nat ns ns.length (Nat.le_refl _), List.take_length]
    rw [e]
    refine ⟨.int (ns.sum : Nat), H, I.kept (t' := tk) fun b o e => hk b o (fun z => ?_) (Heap.get?_push_of_some _ e), ⟨_, rfl⟩, q⟩
    have z' : b = s.heap.objs.size := by simpa using z
    subst z'
    exact absurd (Heap.lt_size e) (Nat.lt_irrefl _)
end
end L2
/-! OWN RULES over the hand layer: a call of a name of the frame; reversed, list(reversed(..)), zip -/
namespace L2
open PySem PySem.Spec PyProof.Rows

/-! ### some untracked records of ours have turned -/
theorem Inv.turnedL {X : Cx} {pins : List (Addr × Obj)} {σ : St} {H : Hp} {s : Shared} {h' : Heap} {t' : Nat} {ch : List Addr} (I : Inv X pins σ H s) (k : ∀ b o, b ∉ ch → s.heap.get? b = some o → h'.get? b = some o) (hf : ∀ b ∈ ch, FpOk X pins H b) :
    Inv X pins σ H { s with heap := h', toks := t' } := by
  have nit : ∀ b u, H b = some u → b ∉ ch := fun b u e z => by rw [(hf b z).1] at e; cases e
  refine I.step (g' := s.gens) (d' := s.drawn) (ch := ch) (fun b hb => ?_) (fun b o _ _ hc e _ => k b o hc e) (fun b o _ _ hc e _ => ⟨o.slots, k b o hc e⟩) (fun _ _ _ _ n => n)
    (fun b o hc e => ⟨o, k b o hc e⟩) (fun _ _ e => e) (fun _ _ _ e => e) (fun b ps e => ⟨#[], by rw [e]; simp⟩) (fun m hm => ?_) (fun b u e => ?_) I.bare
  · obtain ⟨_, f1, _, f3, f4, f5⟩ := hf b hb
    exact ⟨f3, f1, f4, f5⟩
  · obtain ⟨o, es, ep, ho, r⟩ := hm
    exact ⟨o, es, ep, k _ o (fun z => (hf _ z).2.1 rfl) ho, r⟩
  · refine (I.hok b u e).stay (fun c v hc q => k c v ?_ q) (fun _ q => q) fun _ _ q => q
    rcases hc with z | z
    · rw [z]; exact nit b u e
    · exact nit c _ z

/-! ### f(..), f a name of the frame that stands for a def -/
def tCallV (P : Program) (w : World) (K : PySem.W.Frag) (mg : Str → Option Value) (base : Heap) (A : Around) (CX : CXT) (E : XK) (tf : TE) (t : TA) : TE := fun σ H Q => tf σ H fun x H0 => ∃ (f : Addr) (fd : FuncData) (ps : List Str) (sp : Sp) (k : Nat),
  x = .ref f ∧ FnOk P w K mg base CX k f fd ps sp ∧ Room k A ∧ PySem.W.keepIn K (.ref f) = true ∧ Binds K fd ps [] ∧ t σ H0 fun vs H1 => sp vs H1 Q E
section
variable {X : Cx} {P : Program} {w : World} {K : PySem.W.Frag} {mg : Str → Option Value} {base : Heap} {A : Around} {CX : CXT} {E : XK} {x : Str} {p pos : Pos} {e : Expr} {es : List Expr} {tf : TE} {t : TA}
theorem pe_callV (hf : PE X (.Name x p) tf) (hx : Passes CX X E) (ha : PA X (e :: es) t) (hP : X.prog = P := by rfl) (hw : X.w = w := by rfl) (hK : X.K = K := by rfl) (hmg : X.mg = mg := by rfl) (hbs : X.base = base := by rfl) (hA : X.A = A := by rfl)
    (he : starEach (e :: es) X.env = (false, eval e X.env) :: starEach es X.env := by rfl) (hpl : (backTo pos (starEach es X.env)).any (·.1) = false := by rfl) :
    PE X (.Call (.Name x p) (e :: es) [] pos) (tCallV P w K mg base A CX E tf t) := by
  subst hP; subst hw; subst hK; subst hmg; subst hbs; subst hA
  intro pins s σ H Q I h
  refine wpAny_Call_Name_kw (thn (hf pins s σ H _ I h) fun fv s0 ⟨y, H0, I0, r0, q0⟩ => ?_)
  obtain ⟨f, fd, ps, sp, k, rfl, F, hr, hk, hb, q⟩ := q0
  cases r0
  refine PySem.W.callWith_K (h₀ := X.base) I0.ok.mod.kin hk (thn (ha pos pins s0 σ H0 _ I0 q) fun us s1 ⟨vs, H1, I1, r, q1⟩ => ⟨I1.kIn, ?_⟩) he hpl
  exact run_fn (dvs := []) F hr hb .nil hx I1 r (by rw [List.append_nil]; exact q1)
end

/-! ### for .. in reversed(xs) -/
theorem bt_reversed : bootBuiltins "reversed" = some (.type "reversed") := by decide +kernel
def Itv (K : PySem.W.Frag) (a : Addr) (n : Nat) : It :=
  ⟨fun i H => ∃ xs x, SqL K H a xs ∧ xs.reverse[i]? = some x ∧ xs.length = n, fun i H x H' => H' = H ∧ ∀ xs, SqL K H a xs → xs.reverse[i]? = some x, fun i _ => i = n⟩
theorem turn_rev {P : Program} {w : World} {K : PySem.W.Frag} {tg : Expr} (a it : Addr) (n : Nat) : Turn P w K tg (Itv K a n) [it] it (fun i h => h.IsRevIter it a ((n : Int) - 1 - (i : Int))) where
  mem := by simp
  obj := fun i h st b hb => by
    have e : b = it := by simpa using hb
    subst e
    obtain ⟨o, e, c, d⟩ := st
    exact ⟨o, e, fun v z => by rw [d] at z; cases z⟩
  keep := fun i h h' st k => st.at fun o e => k it (by simp) o e
  item := by
    intro X hP hw hK hc i pins s σ H E I hf st hg
    subst hP hw hK
    obtain ⟨xs, x, hq, hx, hn⟩ := hg
    obtain ⟨its, rv, p, hz⟩ := I.list hq
    have hlt : i < xs.length := by
      have := (List.getElem?_eq_some_iff.mp hx).1
      simpa using this
    rw [List.getElem?_reverse hlt] at hx
    obtain ⟨u, hu, ru⟩ := rv.get hx
    obtain ⟨f0, f1, f2, f3, f4, f5⟩ := hf it (by simp)
    have e1 : (n : Int) - 1 - (i : Int) = ((xs.length - 1 - i : Nat) : Int) := by omega
    have st1 := st
    rw [e1] at st1
    refine wpAny_pyNext_rev_item st1 p.isList (x := u) (by simpa using hu) fun h' st' sb => ?_
    have I1 : Inv X pins σ H { s with heap := h' } := I.turned (t' := s.toks) (fun b o hb e => (sb.2 b hb).trans e) f0 f1 f3 f4 f5
    have e2 : ((xs.length - 1 - i : Nat) : Int) - 1 = (n : Int) - 1 - ((i + 1 : Nat) : Int) := by omega
    rw [e2] at st'
    obtain ⟨o, e, c, d⟩ := id st'
    exact ⟨u, rfl, go_of (s := { s with heap := h' }) e c d (by decide) ⟨x, H, I1, ru, ⟨rfl, fun ys hy => by rw [I.list_inj hy hq, List.getElem?_reverse hlt]; exact hx⟩, st', fun b hb => (hf b hb).1⟩⟩
  done := by
    intro X hP hw hK hc i pins s σ H E I hf st hg
    subst hP hw hK
    obtain ⟨f0, f1, f2, f3, f4, f5⟩ := hf it (by simp)
    have hi : i = n := hg
    have e1 : (n : Int) - 1 - (i : Int) = -1 := by omega
    rw [e1] at st
    exact wpAny_pyNext_rev_end (I.ok.hd hc) st fun h' eb => ⟨rfl, I.turned (t' := s.toks) (fun b o hb e => eb b o hb e) f0 f1 f3 f4 f5⟩
  self := fun _ _ _ _ _ st h => wpAny_pyIter_revIter st h
section
variable {X : Cx} {tg : Expr} {K : PySem.W.Frag}
def iRev (K : PySem.W.Frag) (ta : TA) : TI := fun σ H R => ta σ H fun vs H1 => ∃ a xs, vs = [.ref a] ∧ SqL K H1 a xs ∧ R (Itv K a xs.length) H1
theorem pi_rev {a : Expr} {ta : TA} {p pos : Pos} (hg : Gl X "reversed") (hm : X.mg "reversed" = none) (ha : PA X [a] ta) (hK : X.K = K := by rfl) (hs : starEach [a] X.env = [(false, eval a X.env)] := by rfl) : PI X tg (.Call (.Name "reversed" p) [a] [] pos) (iRev K ta) := by
  subst hK
  intro pins s σ H R I h
  refine Call_ (ld_blt I hg hm bt_reversed (PyProof.Rows.callWith_type1 (thn (ha pos pins s σ H _ I h) fun us s1 ⟨vs, H1, I1, r1, q1⟩ => ?_) hs rfl))
  obtain ⟨l, xs, e, hq, q⟩ := q1
  subst e
  cases r1 with
  | cons r rr =>
    cases rr
    cases r
    obtain ⟨its, rv, pl, hz⟩ := I1.list hq
    have hl : its.toArray.size = xs.length := by rw [List.size_toArray]; exact rv.length.symm
    refine call_reversed_list pl.isList ?_
    have st : (s1.heap.push (revObj l ((its.toArray.size : Int) - 1))).IsRevIter s1.heap.objs.size l ((xs.length : Int) - 1 - ((0 : Nat) : Int)) := ⟨_, Heap.get?_push_size _ rfl, rfl, by rw [hl]; simp [revObj]⟩
    refine wpAny_pyIter_revIter st ?_
    refine ⟨s1.heap.objs.size, [s1.heap.objs.size], _, _, H1, rfl, I1.kept (t' := s1.toks) fun b o e => Heap.get?_push_of_some _ e, turn_rev l _ xs.length, st, fun b hb => ?_, q⟩
    have e : b = s1.heap.objs.size := by simpa using hb
    subst e
    exact I1.fpOk (Nat.le_refl _) (I1.hok.fresh (Nat.le_refl _))
end
theorem for_rev {K : PySem.W.Frag} {a : Addr} {xs : List V} {g : TG} {tb : TS} {D : Ends} {σ : St} {H : Hp} (Pv : Nat → St → Hp → Prop) (h0 : Pv 0 σ H) (hl : ∀ i σ H, i ≤ xs.length → Pv i σ H → SqL K H a xs)
    (hs : ∀ i x σ H, xs.reverse[i]? = some x → Pv i σ H → g x σ H fun σ2 H2 => tb { D with nx := Pv (i + 1), ct := Pv (i + 1), bk := D.nx } σ2 H2) (hd : ∀ σ H, Pv xs.length σ H → D.nx σ H) :
    ∃ W : Nat → Nat → St → Hp → Prop, (∃ m, W 0 m σ H) ∧ ∀ i m σ H, W i m σ H →
      ((Itv K a xs.length).stop i H ∧ D.nx σ H) ∨ ((Itv K a xs.length).go i H ∧ ∃ N : St → Hp → Prop, (∀ σ' H', N σ' H' → ∃ m', m' < m ∧ W (i + 1) m' σ' H') ∧ ∀ x H', (Itv K a xs.length).yld i H x H' → g x σ H' fun σ2 H2 => tb { D with nx := N, ct := N, bk := D.nx } σ2 H2) := by
  refine ⟨fun i m σ H => m = xs.length - i ∧ i ≤ xs.length ∧ Pv i σ H, ⟨xs.length, by simp, Nat.zero_le _, h0⟩, ?_⟩
  rintro i m σ H ⟨rfl, hi, p⟩
  have q := hl i σ H hi p
  by_cases hlt : i < xs.length
  · have hlt' : i < xs.reverse.length := by rw [List.length_reverse]; exact hlt
    refine .inr ⟨⟨xs, xs.reverse[i], q, List.getElem?_eq_getElem hlt', rfl⟩, Pv (i + 1), fun σ' H' p' => ⟨xs.length - (i + 1), by omega, rfl, hlt, p'⟩, fun x H' y => ?_⟩
    obtain ⟨e, y⟩ := y
    subst e
    exact hs i x σ _ (y xs q) p
  · have e : i = xs.length := by omega
    subst e
    exact .inl ⟨rfl, hd σ H p⟩
end L2

/-! ### list(reversed(xs)) -/
namespace PySem
namespace F
theorem nolen_lri : typeLookup (.type "list_reverseiterator") "__len__" = pure none := by rw [typeLookup_type, builtinLookup_eq_fast]; kernel_rfl
theorem hint_lri : typeLookup (.type "list_reverseiterator") "__length_hint__" = pure (some (.builtin "list_reverseiterator.__length_hint__")) := by rw [typeLookup_type, builtinLookup_eq_fast]; kernel_rfl
end F
section
variable {prog : Program} {w : World} {A : Around} {E : Value → Shared → Prop} {s : Shared}
abbrev RevItems (items : Array Value) : Nat → Value → Prop := fun i v => items[items.size - 1 - i]? = some v
theorem wpAny_extend_rev {R : Result → Shared → Prop} (hh : A.handled = none) {I l : Addr} {items : Array Value} (hit : s.heap.IsRevIter I l ((items.size : Int) - 1)) (hl : s.heap.IsList l items) (hne : l ≠ I) (S : Addr) (res : Value) (c₀ : Nat)
    (hS : s.heap.get? S = some { cls := .type "list", data := .seq #[] c₀ }) (hSI : S ≠ I) (hSl : S ≠ l)
    (hR : ∀ h' tk acc' c', (∀ b o, b ≠ S → b ≠ I → s.heap.get? b = some o → h'.get? b = some o) → h'.get? S = some { cls := .type "list", dict := none, data := .seq acc' c', slots := #[] } →
      ItemsOf (RevItems items) acc' items.size → R (.ok (.ret res)) { s with heap := h', toks := tk }) (hn : items.size ≤ sizeLine) :
    wpAny (model prog w) A.in1 (Builtin.List.listExtendWith (.ref S) (.ref I) res)
      (fun fin s' => match fin with | .done f => R (.ok f) s' | .again c' => c'.quiet = true ∧ codeAny (model prog w) A c' R s') (fun e s' => R (.error e) s') s := by
  have hSf : S ∉ [I, l] := fun hm => by
    rcases List.mem_cons.mp hm with e | hm
    · exact hSI e
    · exact hSl (List.mem_singleton.mp hm)
  have W := (Walks.listRev (prog := prog) (w := w) (A := A.in1) hh I l hne items).toS
  have hit0 : s.heap.IsRevIter I l ((items.size : Int) - 1 - ((0 : Nat) : Int)) := by
    have e : (items.size : Int) - 1 - ((0 : Nat) : Int) = (items.size : Int) - 1 := by omega
    rw [e]; exact hit
  unfold Builtin.List.listExtendWith
  refine wpAny_bind (wpAny_typeOf (T := "list_reverseiterator") hit.typeIs ?_)
  have h1 : Builtin.List.listSameRef (.ref S) (.ref I) = false := by simp [Builtin.List.listSameRef, hSI]
  have h2 : (Value.type "list_reverseiterator" == Value.type "list") = false := by decide
  have h3 : (Value.type "list_reverseiterator" == Value.type "tuple") = false := by decide
  simp only [h1, h2, h3, Bool.or_false, Bool.false_eq_true, if_false]
  refine wpAny_bind (wpAny_pyIter_revIter hit ?_)
  refine wpAny_bind (wpAny_holding ?_)
  unfold Builtin.List.listLengthHint
  refine wpAny_bind (wpAny_specialOf hit.typeIs F.nolen_lri ?_)
  show wpAny _ A.in1 (specialOf (Value.ref I) (Str.ofString "__length_hint__") >>= _) _ _ _
  refine wpAny_bind (wpAny_specialOf hit.typeIs F.hint_lri ?_)
  generalize hid : ("list_reverseiterator.__length_hint__" : String) = id0
  wp_delta
  rw [show splitId id0 = some ("list_reverseiterator", "__length_hint__") from by subst hid; decide +kernel]
  subst hid
  refine wpAny_bind (wpAny_isInstance (b := true) hit.typeIs (by rw [isSubtype_type]; kernel_rfl) ?_)
  refine wpAny_pure ?_
  rw [if_neg (by decide)]
  refine wpAny_pure ⟨plainId_quiet F.plain_extend_loop _, codeAny_extend_loopS W hn _ hSf _ items.size 0 _ _ _ rfl (Nat.zero_le _) ⟨Nat.zero_le _, hit0, hl⟩ hS (ItemsOf.nil _) fun s' acc' c' hm hS' hacc => ?_⟩
  rw [Moved.eq_with hm]
  refine hR s'.heap s'.toks acc' c' (fun b ob hb hb2 e => hm.heap b ob (fun hmem => ?_) e) hS' hacc
  rcases List.mem_cons.mp hmem with e' | hmem
  · exact hb e'
  · exact hb2 (List.mem_singleton.mp hmem)
theorem wpAny_list_init_rev {R : Result → Shared → Prop} (hh : A.handled = none) {I l : Addr} {items : Array Value} (hit : s.heap.IsRevIter I l ((items.size : Int) - 1)) (hl : s.heap.IsList l items) (hne : l ≠ I) (S : Addr) (hSI : S ≠ I) (hSl : S ≠ l)
    (hS : s.heap.get? S = some { cls := .type "list", data := .seq #[] })
    (hR : ∀ h' tk acc' c', (∀ b o, b ≠ S → b ≠ I → s.heap.get? b = some o → h'.get? b = some o) → h'.get? S = some { cls := .type "list", dict := none, data := .seq acc' c', slots := #[] } →
      ItemsOf (RevItems items) acc' items.size → R (.ok (.ret .none)) { s with heap := h', toks := tk }) (hn : items.size ≤ sizeLine) :
    wpAny (model prog w) A.in1 (Builtin.«list.__init__» ⟨[.ref S, .ref I], []⟩)
      (fun fin s' => match fin with | .done f => R (.ok f) s' | .again c' => c'.quiet = true ∧ codeAny (model prog w) A c' R s') (fun e s' => R (.error e) s') s := by
  show wpAny _ _ (do let old ← Builtin.List.listItems (.ref S); Builtin.List.listUpdate (.ref S) (fun _ => #[]); letGo old.toList.reverse; Builtin.List.listExtendWith (.ref S) (.ref I) .none) _ _ s
  refine wpAny_bind ?_
  unfold Builtin.List.listItems
  refine wpAny_bind (wpAny_seqItems hS rfl (wpAny_pure ?_))
  show wpAny _ _ (updateSeq S (fun _ => #[]) >>= fun _ => letGo (#[] : Array Value).toList.reverse >>= fun _ => Builtin.List.listExtendWith (.ref S) (.ref I) .none) _ _ s
  refine wpAny_bind (wpAny_updateSeq hS rfl ?_)
  have hS₂ := Heap.get?_update_self (Obj.mapSeq (fun _ => (#[] : Array Value))) hS rfl
  have oth : ∀ b o, b ≠ S → s.heap.get? b = some o → (s.heap.update S (Obj.mapSeq (fun _ => (#[] : Array Value)))).get? b = some o :=
    fun b o hb e => (Heap.get?_update_other _ _ (Ne.symm hb)).trans e
  refine wpAny_bind (wpAny_letGo ?_)
  refine wpAny_extend_rev hh (hit.at fun o e => oth I o (Ne.symm hSI) e) (hl.at fun o e => oth l o (Ne.symm hSl) e) hne S .none _ hS₂ hSI hSl (fun h' tk acc' c' hk hS' hacc => ?_) hn
  exact hR h' tk acc' c' (fun b o hb hb2 e => hk b o hb hb2 (oth b o hb e)) hS' hacc
theorem call_list_rev {Q : Value → Shared → Prop} (hh : A.handled = none) {I l : Addr} {items : Array Value} (hit : s.heap.IsRevIter I l ((items.size : Int) - 1)) (hl : s.heap.IsList l items) (hne : l ≠ I)
    (hQ : ∀ h' tk acc' c', (∀ b o, b ≠ I → s.heap.get? b = some o → h'.get? b = some o) →
      h'.get? s.heap.objs.size = some { cls := .type "list", dict := none, data := .seq acc' c', slots := #[] } → ItemsOf (RevItems items) acc' items.size → Q (.ref s.heap.objs.size) { s with heap := h', toks := tk }) (hn : items.size ≤ sizeLine) :
    wpAny (model prog w) A (call (.type "list") [.ref I]) Q E s := by
  have ltI : I < s.heap.objs.size := let ⟨o, e, _⟩ := hit; Heap.lt_size e
  have ltl : l < s.heap.objs.size := let ⟨o, e, _⟩ := hl; Heap.lt_size e
  refine callType_codes (Q₁ := fun obj s₁ => obj = .ref s.heap.objs.size ∧ s₁ = { s with heap := s.heap.push { cls := .type "list", data := .seq #[] } }) F.called_list (F.typeCall_list_1 _) F.entry_list_init
    (code_list_new _ ⟨rfl, rfl⟩) fun obj s₁ h₁ => ?_
  obtain ⟨rfl, rfl⟩ := h₁
  have hS : (s.heap.push { cls := .type "list", data := .seq #[] }).get? s.heap.objs.size = some { cls := .type "list", data := .seq #[] } := Heap.get?_push_size _ rfl
  refine ⟨⟨_, hS, rfl⟩, F.args_list_init_2 _ _, wpAny_list_init_rev (A := A.in1) hh (hit.at fun o e => Heap.get?_push_of_some _ e) (hl.at fun o e => Heap.get?_push_of_some _ e) hne _ (Nat.ne_of_gt ltI) (Nat.ne_of_gt ltl) hS (fun h' tk acc' c' hk hS' hacc => ?_) hn⟩
  exact ⟨rfl, hQ h' tk acc' c' (fun b o hb e => hk b o (Nat.ne_of_lt (Heap.lt_size e)) hb (Heap.get?_push_of_some _ e)) hS' hacc⟩
theorem rev_items {its : List Value} {acc : Array Value} (h : ItemsOf (RevItems its.toArray) acc its.toArray.size) : acc = its.reverse.toArray := by
  obtain ⟨h1, h2⟩ := h
  refine Array.ext (by simpa using h1) fun i hi hi2 => ?_
  have e := h2 i acc[i] (Array.getElem?_eq_getElem hi)
  have e' : its[its.length - 1 - i]? = some acc[i] := by simpa [RevItems] using e
  have hlt : i < its.length := by simpa using hi2
  have e2 : its.reverse[i]? = some acc[i] := by rw [List.getElem?_reverse hlt]; exact e'
  have e3 : its.reverse.toArray[i]? = some acc[i] := by simpa using e2
  rw [Array.getElem?_eq_getElem hi2] at e3
  exact (Option.some.inj e3).symm
end
end PySem
namespace L2
open PySem PySem.Spec PyProof.Rows
theorem Vals.rev {vs : List V} {us : List Value} (h : Vals vs us) : Vals vs.reverse us.reverse := by
  induction h with
  | nil => exact .nil
  | cons r _ ih => rw [List.reverse_cons, List.reverse_cons]; exact ih.append (.cons r .nil)
section
variable {X : Cx} {K : PySem.W.Frag}
def tListRev (K : PySem.W.Frag) (ta : TA) : TE := fun σ H Q => ta σ H fun vs H1 => ∃ a xs, vs = [.ref a] ∧ SqL K H1 a xs ∧ ∀ r, H1 r = none → Q (.ref r) (upd H1 r (.lst xs.reverse))
theorem pe_listRev {a : Expr} {ta : TA} {p p' pos pos' : Pos} (hg : Gl X "reversed") (hm : X.mg "reversed" = none) (hg' : Gl X "list") (hm' : X.mg "list" = none) (hc : X.calm = true) (ha : PA X [a] ta) (hK : X.K = K := by rfl) (hs : starEach [a] X.env = [(false, eval a X.env)] := by rfl)
    (hs' : starEach [.Call (.Name "reversed" p) [a] [] pos] X.env = [(false, eval (.Call (.Name "reversed" p) [a] [] pos) X.env)] := by rfl) :
    PE X (.Call (.Name "list" p') [.Call (.Name "reversed" p) [a] [] pos] [] pos') (tListRev K ta) := by
  subst hK
  intro pins s σ H Q I h
  refine wpAny_Call_Name_kw (ld_blt I hg' hm' bt_list ?_)
  refine PyProof.Rows.callWith_type1 ?_ hs' rfl
  rw [hs']
  refine Calls.spliced_cons (Call_ (ld_blt I hg hm bt_reversed (PyProof.Rows.callWith_type1 (thn (ha pos pins s σ H _ I h) fun us s1 ⟨vs, H1, I1, r1, q1⟩ => ?_) hs rfl)))
  obtain ⟨l, xs, e, hq, q⟩ := q1
  subst e
  cases r1 with
  | cons r rr =>
    cases rr
    cases r
    obtain ⟨its, rv, pl, hz⟩ := I1.list hq
    refine call_reversed_list pl.isList ?_
    refine Calls.spliced_nil ?_
    have st : (s1.heap.push (revObj l ((its.toArray.size : Int) - 1))).IsRevIter s1.heap.objs.size l ((its.toArray.size : Int) - 1) := ⟨_, Heap.get?_push_size _ rfl, rfl, rfl⟩
    have ltl : l < s1.heap.objs.size := let ⟨o, e, _⟩ := pl.isList; Heap.lt_size e
    have hlen := rv.length
    refine call_list_rev (I1.ok.hd hc) st (pl.isList.at fun o e => Heap.get?_push_of_some _ e) (Nat.ne_of_lt ltl) (fun h' tk acc c hk hS hacc => ?_) (by rw [List.size_toArray, ← hlen]; exact hz)
    rw [rev_items hacc] at hS
    have ns : (s1.heap.push (revObj l ((its.toArray.size : Int) - 1))).objs.size = s1.heap.objs.size + 1 := Heap.size_push ..
    rw [ns] at hS ⊢
    have kp : ∀ b o, s1.heap.get? b = some o → h'.get? b = some o := fun b o e => hk b o (Nat.ne_of_lt (Heap.lt_size e)) (Heap.get?_push_of_some _ e)
    exact ⟨.ref (s1.heap.objs.size + 1), _, I1.laid (t' := tk) kp (Nat.le_succ _) (show ObjOk X.prog X.w _ h' _ (.lst xs.reverse) from ⟨by rw [List.length_reverse]; exact hz, its.reverse, c, rv.rev, hS⟩), rfl, q _ (I1.hok.fresh (Nat.le_succ _))⟩
end
end L2
/-! OWN RULES over the hand layer: zip(a, b) of two lists; comprehensions whose target is a pair of names -/
namespace L2
open PySem PySem.Spec PyProof.Rows
theorem bt_zip : bootBuiltins "zip" = some (.type "zip") := by decide +kernel
def Itz (K : PySem.W.Frag) (l1 l2 : Addr) : It :=
  ⟨fun i H => ∃ xs ys x y, SqL K H l1 xs ∧ SqL K H l2 ys ∧ xs[i]? = some x ∧ ys[i]? = some y,
   fun i H v H' => ∃ T x y, (∀ xs ys, SqL K H l1 xs → SqL K H l2 ys → xs[i]? = some x ∧ ys[i]? = some y) ∧ H T = none ∧ v = .ref T ∧ H' = upd H T (.tup [x, y]),
   fun i H => ∃ xs ys, SqL K H l1 xs ∧ SqL K H l2 ys ∧ (xs.length ≤ i ∨ ys.length ≤ i)⟩
def ZipSt (z TI TO i1 i2 l1 l2 : Addr) (i : Nat) (h : Heap) : Prop := IsZip h z TI TO .none ∧ IsPair h TI (.ref i1) (.ref i2) ∧ (∃ a b, IsPair h TO a b) ∧ h.IsListIter i1 l1 i ∧ h.IsListIter i2 l2 i
theorem turn_zip {P : Program} {w : World} {K : PySem.W.Frag} {elts : List Expr} {kt : Nat} {pt : Pos} {z TI TO i1 i2 l1 l2 : Addr} (D : ZipApart z TI TO i1 i2 l1 l2) :
    Turn P w K (.Tuple elts kt pt) (Itz K l1 l2) [z, TI, TO, i1, i2] z (ZipSt z TI TO i1 i2 l1 l2) where
  mem := by simp
  obj := fun i h st b hb => by
    obtain ⟨hz, hTI, ⟨a, b', hTO⟩, h1, h2⟩ := st
    simp only [List.mem_cons, List.not_mem_nil, or_false] at hb
    rcases hb with rfl | rfl | rfl | rfl | rfl
    · exact ⟨_, hz, fun v q => by cases q⟩
    · exact ⟨_, hTI, fun v q => by cases q⟩
    · exact ⟨_, hTO, fun v q => by cases q⟩
    · obtain ⟨o, e, c, d⟩ := h1
      exact ⟨o, e, fun v q => by rw [d] at q; cases q⟩
    · obtain ⟨o, e, c, d⟩ := h2
      exact ⟨o, e, fun v q => by rw [d] at q; cases q⟩
  keep := fun i h h' st k => by
    obtain ⟨hz, hTI, ⟨a, b', hTO⟩, h1, h2⟩ := st
    exact ⟨k z (by simp) _ hz, k TI (by simp) _ hTI, ⟨a, b', k TO (by simp) _ hTO⟩, h1.at fun o e => k i1 (by simp) o e, h2.at fun o e => k i2 (by simp) o e⟩
  item := by
    intro X hP hw hK hc i pins s σ H E I hf st hg
    subst hP hw hK
    obtain ⟨xs, ys, x, y, q1, q2, hx, hy⟩ := hg
    obtain ⟨hz, hTI, ⟨a, b, hTO⟩, h1, h2⟩ := st
    obtain ⟨its, rv, p, hsz⟩ := I.list q1
    obtain ⟨its2, rv2, p2, hsz2⟩ := I.list q2
    obtain ⟨u, hu, ru⟩ := rv.get hx
    obtain ⟨u2, hu2, ru2⟩ := rv2.get hy
    refine wpAny_pyNext_zip_item D hz hTI hTO h1 h2 p.isList p2.isList (x := u) (y := u2) (by simpa using hu) (by simpa using hu2) fun h' a1 a2 a3 a4 a5 a6 hk => ?_
    have hT0 : H s.heap.objs.size = none := I.hok.fresh (Nat.le_refl _)
    have J1 : Inv X pins σ (upd H s.heap.objs.size (.tup [x, y])) { s with heap := s.heap.push { cls := .type "tuple", data := .seq #[u, u2] } } :=
      I.laid (t' := s.toks) (fun b o e => Heap.get?_push_of_some _ e) (Nat.le_refl _) (show ObjOk X.prog X.w _ _ _ (.tup [x, y]) from ⟨(by show 2 ≤ sizeLine; decide), [u, u2], .cons ru (.cons ru2 .nil), IsTup.new _ _⟩)
    have lt : ∀ b ∈ [z, TI, TO, i1, i2], b ≠ s.heap.objs.size := fun b hb => by
      simp only [List.mem_cons, List.not_mem_nil, or_false] at hb
      rcases hb with rfl | rfl | rfl | rfl | rfl
      · exact Nat.ne_of_lt (Heap.lt_size hz)
      · exact Nat.ne_of_lt (Heap.lt_size hTI)
      · exact Nat.ne_of_lt (Heap.lt_size hTO)
      · obtain ⟨o, e, _⟩ := h1; exact Nat.ne_of_lt (Heap.lt_size e)
      · obtain ⟨o, e, _⟩ := h2; exact Nat.ne_of_lt (Heap.lt_size e)
    have hf2 : ∀ b ∈ [z, TI, TO, i1, i2], FpOk X pins (upd H s.heap.objs.size (.tup [x, y])) b := fun b hb => ⟨by rw [upd_ne (lt b hb)]; exact (hf b hb).1, (hf b hb).2⟩
    have J2 : Inv X pins σ (upd H s.heap.objs.size (.tup [x, y])) { s with heap := h' } := Inv.turnedL (s := { s with heap := s.heap.push { cls := .type "tuple", data := .seq #[u, u2] } }) (t' := s.toks) (h' := h') (ch := [z, TI, TO, i1, i2]) J1 (fun b o hb e => by
      rcases Heap.get?_push_cases e with ⟨rfl, rfl⟩ | e'
      · exact a5
      · simp only [List.mem_cons, List.not_mem_nil, or_false, not_or] at hb
        exact hk b o hb.1 hb.2.2.1 hb.2.2.2.1 hb.2.2.2.2 e') hf2
    refine ⟨.ref s.heap.objs.size, rfl, ?_⟩
    refine wpAny_letOwnedTupleGo_zip (s := { s with heap := h' }) a1 fun h2' hz' hs' => ?_
    obtain ⟨g0, g1, g2, g3, g4, g5⟩ := hf2 z (by simp)
    refine ⟨.ref s.heap.objs.size, _, J2.turned (t' := s.toks) (fun b o hb e => (hs'.2 b hb).trans e) g0 g1 g3 g4 g5, rfl, ⟨s.heap.objs.size, x, y, fun xs' ys' e1 e2 => ?_, hT0, rfl, rfl⟩, ?_, fun b hb => (hf2 b hb).1⟩
    · rw [I.list_inj e1 q1, I.list_inj e2 q2]
      exact ⟨hx, hy⟩
    · exact ⟨hz', hs'.extBut _ _ D.TIz (hk _ _ D.TIz D.TITO D.TIi1 D.TIi2 hTI), ⟨_, _, hs'.extBut _ _ D.TOz a2⟩, a3.extBut hs'.extBut D.i1z, a4.extBut hs'.extBut D.i2z⟩
  done := by
    intro X hP hw hK hc i pins s σ H E I hf st hg
    subst hP hw hK
    obtain ⟨xs, ys, q1, q2, hend⟩ := hg
    obtain ⟨hz, hTI, ⟨a, b, hTO⟩, h1, h2⟩ := st
    obtain ⟨its, rv, p, hsz⟩ := I.list q1
    obtain ⟨its2, rv2, p2, hsz2⟩ := I.list q2
    have l1e := rv.length
    have l2e := rv2.length
    refine wpAny_pyNext_zip_end (I.ok.hd hc) D hz hTI hTO h1 h2 p.isList p2.isList (by
      rcases hend with h | h
      · exact .inl (by simp; omega)
      · exact .inr (by simp; omega)) fun h' hk => ⟨rfl, I.turnedL (t' := s.toks) (ch := [z, TI, TO, i1, i2]) (fun b o hb e => ?_) hf⟩
    simp only [List.mem_cons, List.not_mem_nil, or_false, not_or] at hb
    exact hk b o hb.1 hb.2.2.1 hb.2.2.2.1 hb.2.2.2.2 e
  self := fun _ _ _ _ _ st h => wpAny_pyIter_zip st.1 h
section
variable {X : Cx} {K : PySem.W.Frag} {elts : List Expr} {kt : Nat} {pt : Pos}
def iZip (K : PySem.W.Frag) (ta : TA) : TI := fun σ H R => ta σ H fun vs H1 => ∃ a b xs ys, vs = [.ref a, .ref b] ∧ SqL K H1 a xs ∧ SqL K H1 b ys ∧ R (Itz K a b) H1
theorem pi_zip {a b : Expr} {ta : TA} {p pos : Pos} (hg : Gl X "zip") (hm : X.mg "zip" = none) (ha : PA X [a, b] ta) (hK : X.K = K := by rfl) (hs : starEach [a, b] X.env = [(false, eval a X.env), (false, eval b X.env)] := by rfl) (hs2 : starEach [b] X.env = [(false, eval b X.env)] := by rfl) :
    PI X (.Tuple elts kt pt) (.Call (.Name "zip" p) [a, b] [] pos) (iZip K ta) := by
  subst hK
  intro pins s σ H R I h
  refine Call_ (ld_blt I hg hm bt_zip (PyProof.Rows.callWith_type1 (thn (ha pos pins s σ H _ I h) fun us s1 ⟨vs, H1, I1, r1, q1⟩ => ?_) (by rw [hs, hs2]) (by rw [hs2]; rfl)))
  obtain ⟨l1, l2, xs, ys, e, q1, q2, q⟩ := q1
  subst e
  cases r1 with
  | cons r rr =>
    cases rr with
    | cons r' rr =>
      cases rr
      cases r
      cases r'
      obtain ⟨its, rv, pl, hz⟩ := I1.list q1
      obtain ⟨its2, rv2, pl2, hz2⟩ := I1.list q2
      have lt1 : l1 < s1.heap.objs.size := let ⟨o, e, _⟩ := pl.isList; Heap.lt_size e
      have lt2 : l2 < s1.heap.objs.size := let ⟨o, e, _⟩ := pl2.isList; Heap.lt_size e
      refine call_zip_2 pl.isList pl2.isList fun h' a1 a2 a3 a4 a5 a6 hk => ?_
      refine wpAny_pyIter_zip a1 ?_
      refine ⟨s1.heap.objs.size + 4, [s1.heap.objs.size + 4, s1.heap.objs.size + 2, s1.heap.objs.size + 3, s1.heap.objs.size, s1.heap.objs.size + 1], _, _, H1, rfl, I1.kept (t' := s1.toks) hk, turn_zip (zipApart_new lt1 lt2), ⟨a1, a2, ⟨_, _, a3⟩, a4, a5⟩, fun b hb => ?_, q⟩
      have hle : s1.heap.objs.size ≤ b := by
        simp only [List.mem_cons, List.not_mem_nil, or_false] at hb
        rcases hb with rfl | rfl | rfl | rfl | rfl
        · exact Nat.le_add_right _ _
        · exact Nat.le_add_right _ _
        · exact Nat.le_add_right _ _
        · exact Nat.le_refl _
        · exact Nat.le_add_right _ _
      exact I1.fpOk hle (I1.hok.fresh hle)
end

/-! ### a comprehension's loop, with the step that lets go of the pair -/
theorem compLoop_own {prog : Program} {w : World} {A : Around} {R : Result → Shared → Prop} {s : Shared} {elt target iter : Expr} {ifs : List Expr} {scope : Scope} {pos : Pos} {it acc : Value} {env : Env} (I : Nat → Shared → Prop)
    (turn : ∀ n s, I n s → wpAny (model prog w) A (pyNext it) (fun r s₁ => match r with
      | none => R (.ok .next) s₁
      | some v => wpAny (model prog w) A (letOwnedTupleGo target it v) (fun _ s₀ => wpAny (model prog w) A (assign target env v) (fun _ s₂ =>
          wpAny (model prog w) A (forIn ifs true fun c r => if r = true then do let ok ← isTrue c env (eval c env); pure (ForInStep.yield ok) else pure (ForInStep.yield r)) (fun ok s₃ =>
            if ok = true then wpAny (model prog w) A (eval elt env) (fun x s₄ =>
              wpAny (model prog w) A (call (.builtin "list.append") [acc, x]) (fun _ s₅ => ∃ m, m < n ∧ I m s₅) (notedBy (model prog w) A env fun e s' => R (.error e) s') s₄) (notedBy (model prog w) A env fun e s' => R (.error e) s') s₃
            else ∃ m, m < n ∧ I m s₃) (notedBy (model prog w) A env fun e s' => R (.error e) s') s₂) (notedBy (model prog w) A env fun e s' => R (.error e) s') s₀) (notedBy (model prog w) A env fun e s' => R (.error e) s') s₁)
      (notedBy (model prog w) A env fun e s' => R (.error e) s') s)
    (n : Nat) (h : I n s) : codeAny (model prog w) A (.compLoop (.ListComp elt [⟨target, iter, ifs, 0⟩] scope pos) 0 it acc env) R s := by
  refine codeAny_loop rfl I (fun n s hI => ?_) n h
  show wpAny _ A ((compTurn (.ListComp elt [⟨target, iter, ifs, 0⟩] scope pos) 0 it acc env).onRaise (fun x => do noteFrame x env; theTreesLotGoes x)) _ _ s
  refine wpAny_noted ?_
  rw [compTurn_list]
  refine wpAny_bind (wpAny_standAt (wpAny_bind (thn (turn n s hI) fun r s₁ h₁ => ?_)))
  cases r with
  | none => exact wpAny_pure h₁
  | some v =>
    refine wpAny_bind (thn h₁ fun _ s₀ h₀ => wpAny_bind (thn h₀ fun _ s₂ h₂ => wpAny_bind (thn h₂ fun ok s₃ h₃ => ?_)))
    cases ok with
    | false => exact wpAny_pure ⟨rfl, h₃⟩
    | true => exact wpAny_bind (wpAny_bind (thn h₃ fun x s₄ h₄ => wpAny_bind (thn h₄ fun _ s₅ h₅ => wpAny_pure (wpAny_pure ⟨rfl, h₅⟩))))

/-! ### comprehensions with two names -/
structure CompScope2 (N : List Str) (sc scope : Scope) (x1 x2 : Str) (caps : List Nat) (ns : List Str) : Prop where
  cell : ∀ y ∈ scope.names, y.2 ≠ .cell
  kind : scope.kind = .function
  names : ∀ y ∈ scope.names, y.2 = .local → scope.names.lookup y.1 = some .local
  var1 : scope.names.lookup x1 = some .local
  var2 : scope.names.lookup x2 = some .local
  free : ∀ y ∈ scope.names, y.2 = .free → sc.names.lookup y.1 = some .cell ∨ sc.names.lookup y.1 = some .free
  at_ : caps.map (fun j => N[j]?) = ns.map some
  nsf : ∀ y ∈ ns, scope.names.lookup y = some .free
  nd : (x1 :: x2 :: ns).Nodup
def capσ2 (caps : List Nat) (σ : St) (u v : Option V) : St := u :: v :: caps.map fun j => (σ[j]?).getD none
def tCompR2 (K : PySem.W.Frag) (wi : TI) (caps : List Nat) (tt : TT) (te : TE) (σ : St) (H : Hp) (R : List V → Hp → Prop) : Prop := wi σ H fun J H1 => ∃ W : Nat → Nat → List V → Hp → Prop, (∃ m, W 0 m [] H1) ∧ ∀ i m ys H, W i m ys H →
  ys.length ≤ sizeLine ∧ ((J.stop i H ∧ R ys H) ∨ (J.go i H ∧ ∃ N : List V → Hp → Prop, (∀ ys' H', N ys' H' → ∃ m', m' < m ∧ W (i + 1) m' ys' H') ∧ ∀ v H', J.yld i H v H' → ∃ a v1 v2, v = .ref a ∧ SqT K H' a [v1, v2] ∧
    tt (capσ2 caps σ (some v1) (some v2)) H' fun b H2 => if b = true then te (capσ2 caps σ (some v1) (some v2)) H2 fun y H3 => N (ys ++ [y]) H3 else N ys H2))
def tComp2 (K : PySem.W.Frag) (wi : TI) (caps : List Nat) (tt : TT) (te : TE) : TE := fun σ H Q => tCompR2 K wi caps tt te σ H fun ys H1 => ∀ D, H1 D = none → Q (.ref D) (upd H1 D (.lst ys))
section
variable {X : Cx}
set_option maxHeartbeats 4000000 in
theorem comp_core2 {x1 x2 : Str} {px1 px2 ptu : Pos} {ktu : Nat} {iter elt : Expr} {ifs : List Expr} {scope : Scope} {pos pos' : Pos} {wi : TI} {tt : TT} {te : TE} {caps : List Nat} {ns : List Str} {use : Option (Value → Sem Unit)} {Q : Value → Shared → Prop}
    {pins : List (Addr × Obj)} {s : Shared} {σ : St} {H : Hp} {R : List V → Hp → Prop}
    (CS : CompScope2 X.N X.env.scope scope x1 x2 caps ns) (hc : X.calm = true) (hi : PI X (.Tuple [.Name x1 px1, .Name x2 px2] ktu ptu) iter wi)
    (ht : ∀ cl C s H fp, PTs (X.comp (x1 :: x2 :: ns) scope cl C s H fp) ifs tt) (he : ∀ cl C s H fp, PE (X.comp (x1 :: x2 :: ns) scope cl C s H fp) elt te)
    (hs : ∀ v, foldedSetIterable iter X.env v = pure v)
    (I : Inv X pins σ H s) (h : tCompR2 X.K wi caps tt te σ H R)
    (hend : ∀ D C s' H' ys, Inv X pins σ (upd H' D (.lst ys)) s' → H' D = none → R ys H' → (∃ m, s'.heap.Ns C m) → (upd H' D (.lst ys)) C = none → C ≠ X.env.locals → X.s₀.heap.objs.size ≤ C → (∀ y c, X.env.cells.lookup y = some c → c ≠ C) → (∀ p ∈ X.pn ++ pins, p.1 ≠ C) →
      compPost (model X.prog X.w) X.A X.xe use Q (.ref D) C (.ok .next) s') :
    wpAny (model X.prog X.w) X.A (comprehension (.ListComp elt [⟨.Tuple [.Name x1 px1, .Name x2 px2] ktu ptu, iter, ifs, 0⟩] scope pos) scope X.env pos' (newList []) false (eval iter X.env) use) Q X.xe s := by
  have hcells : ∀ y ∈ scope.names, y.2 = .free → ∃ c, X.env.cells.lookup y.1 = some c := fun y hy hf => I.ok.has y.1 (CS.free y hy hf)
  refine wpAny_comprehension_free (use := use) rfl hs (closureFor_some hcells) CS.kind CS.names ?_
  refine thn (hi pins s σ H _ I h) fun v s1 h1 => thn h1 fun itv s2 h2 => ?_
  obtain ⟨it, fp, tn, J, H2, e, I2, T, st2, f2, W, ⟨m0, w0⟩, turn⟩ := h2
  subst e
  refine wpAny_newObj_type (wpAny_newFunctionEnv CS.cell (by intro y hy; simp at hy) (fun h₁ hns₁ hsb₁ => ?_) CS.kind)
  dsimp only at hns₁ hsb₁ ⊢
  generalize hHH : s2.heap.push { cls := .type "list", dict := none, data := .seq ([] : List Value).toArray } = HH at hns₁ hsb₁ ⊢
  have hC : HH.objs.size = s2.heap.objs.size + 1 := by rw [← hHH, Heap.size_push]
  generalize hCe : HH.objs.size = C at hns₁ hsb₁ hC ⊢
  have hDC : s2.heap.objs.size ≠ C := by rw [hC]; exact Nat.ne_of_lt (Nat.lt_succ_self _)
  have below : ∀ b, b < s2.heap.objs.size → b ≠ C ∧ b ≠ s2.heap.objs.size := fun b hb => ⟨by rw [hC]; exact Nat.ne_of_lt (Nat.lt_succ_of_lt hb), Nat.ne_of_lt hb⟩
  have old : ∀ b o, s2.heap.get? b = some o → h₁.get? b = some o := fun b o e => hsb₁.extBut b o (below b (Heap.lt_size e)).1 (Heap.get?_push_of_some _ (hHH ▸ Heap.get?_push_of_some _ e))
  have hacc : h₁.get? s2.heap.objs.size = some (LCg.lst []) := hsb₁.extBut _ _ hDC (Heap.get?_push_of_some _ (hHH ▸ Heap.get?_push_size _ rfl))
  have nfp : ∀ b ∈ fp, b < s2.heap.objs.size := fun b hb => let ⟨o, e, _⟩ := T.obj _ _ st2 b hb; Heap.lt_size e
  -- the closure's cells are the cells around
  have clsub : ∀ y c, (clOf X.env.cells scope.names []).lookup y = some c → X.env.cells.lookup y = some c := fun y c e => by
    rcases clOf_mem scope.names [] (y, c) hcells (PySem.mem_of_lookup e) with q | q
    · cases q
    · exact q.1
  have fresh2 : ∀ a, s2.heap.objs.size ≤ a → H2 a = none := fun a ha => I2.hok.fresh ha
  generalize hcl : clOf X.env.cells scope.names [] = cl at clsub ⊢
  have clhas : ∀ y, (y, NameKind.free) ∈ scope.names → ∃ c, cl.lookup y = some c := fun y hy => by
    obtain ⟨c, q⟩ := clOf_has (cells := X.env.cells) scope.names [] y (.inl hy)
    rw [hcl] at q
    obtain ⟨d, q1, _⟩ := lookup_of_mem q
    exact ⟨d, q1⟩
  have ltC : ∀ y c, X.env.cells.lookup y = some c → c < s2.heap.objs.size := fun y c e => let ⟨v, z⟩ := I2.cell y c e; z.lt
  have ok' : (X.comp (x1 :: x2 :: ns) scope cl C s2 H2 fp).Ok := by
    refine ⟨I2.ok.mod, CS.kind, I2.ok.glob, I2.ok.blt, (by show s2.heap.objs.size ≤ C; rw [hC]; exact Nat.le_succ _), fun y z c a b => I2.ok.inj y z c (clsub y c a) (clsub z c b), fun y hy => clhas y (kindOf_relabel hy CS.cell), fun y c z => (by cases z), I2.ok.hd, I2.ok.frames, .inl rfl,
      fun b hb => ⟨(below b (nfp b hb)).1, fun y c e z => (f2 b hb).2.2.2.2.1 y c (clsub y c e) z⟩, fun b o e => I2.bs b o e, Nat.le_trans I2.ok.bsz I2.sz, fun b o e hb => ?_, fun b hb hf => ?_, I2.stack, I2.stkFree⟩
    · rcases (f2 b hb).2.2.2.1 with z | z
      · exact I2.ok.noex b o e z
      · exact absurd (Nat.lt_of_lt_of_le (Heap.lt_size e) (Nat.le_trans I2.ok.bsz z)) (Nat.lt_irrefl _)
    · rcases List.mem_cons.mp (I2.stkSub b hf) with z | z
      · exact (f2 b hb).2.1 z
      · exact (f2 b hb).2.2.1 z
  have capget : ∀ (k : Nat) (y : Str) (v : V), (x1 :: x2 :: ns)[k]? = some y → (capσ2 caps σ none none)[k]? = some (some v) → ∃ j, X.N[j]? = some y ∧ σ[j]? = some (some v) ∧ scope.names.lookup y = some .free := fun k y v e1 e2 => by
    match k, e1, e2 with
    | 0, _, e2 => cases e2
    | 1, _, e2 => cases e2
    | k + 2, e1, e2 =>
      have e1' : ns[k]? = some y := by simpa using e1
      have e2' : (caps.map fun j => (σ[j]?).getD none)[k]? = some (some v) := by simpa [capσ2] using e2
      have e3 : (ns.map some)[k]? = some (some y) := by rw [List.getElem?_map, e1']; rfl
      rw [← CS.at_, List.getElem?_map] at e3
      rw [List.getElem?_map] at e2'
      cases hj : caps[k]? with
      | none => rw [hj] at e3; cases e3
      | some j =>
        rw [hj] at e3 e2'
        have e4 : X.N[j]? = some y := Option.some.inj e3
        have e5 : (σ[j]?).getD none = some v := Option.some.inj e2'
        refine ⟨j, e4, ?_, CS.nsf y (List.mem_of_getElem? e1')⟩
        cases hσ : σ[j]? with
        | none => rw [hσ] at e5; cases e5
        | some z => rw [hσ] at e5; have e6 : z = some v := e5; rw [e6]
  have visfree : ∀ y, scope.names.lookup y = some .free → X.env.kindOf y = some .cell ∨ X.env.kindOf y = some .free := fun y hy => CS.free (y, .free) (PySem.mem_of_lookup hy) rfl
  have I0 : Inv (X.comp (x1 :: x2 :: ns) scope cl C s2 H2 fp) (pins ++ [(s2.heap.objs.size, LCg.lst [])]) (capσ2 caps σ none none) H2 { s2 with heap := h₁, toks := s2.toks + ([] : List (Str × Value)).length } := by
    obtain ⟨m2, hn2, hl2⟩ := I2.loc
    refine ⟨ok', rfl, I2.bare, Un.kept old, ⟨_, hns₁, fun k y v e1 e2 e3 => ?_⟩, fun y c e => ?_, fresh2 C (by rw [hC]; exact Nat.le_succ _), fun y c e => I2.freeC y c (clsub y c e), fun p hp => ?_, I2.hok.kept old, ?_⟩
    · obtain ⟨j, q1, q2, q3⟩ := capget k y v e1 e2
      have vf := visfree y q3
      obtain ⟨u, ru, lk⟩ := hl2 j y v q1 q2 (vf.elim (fun z => .inr (.inl z)) fun z => .inr (.inr z))
      refine ⟨u, ru, .inr ⟨lookup_relabel_free q3, ?_⟩⟩
      obtain ⟨c, hcl'⟩ := clhas y (PySem.mem_of_lookup q3)
      refine ⟨c, hcl', ?_⟩
      rcases lk with ⟨k1, _⟩ | ⟨_, c', e', z⟩
      · rcases vf with vf | vf <;> (rw [k1] at vf; cases vf)
      · have q := clsub y c hcl'
        rw [e'] at q
        cases q
        exact z.keeps old
    · obtain ⟨v, z⟩ := I2.cell y c (clsub y c e)
      exact ⟨v, z.keeps old⟩
    · rcases List.mem_append.mp hp with hp | hp
      · obtain ⟨a1, a2, a3, a4, a5⟩ := I2.pin p (List.mem_append_left _ hp)
        refine ⟨old _ _ a1, a2, (below _ (Heap.lt_size a1)).1, fun z => ?_, a5⟩
        rcases List.mem_cons.mp (I2.stkSub _ z) with z | z
        · exact a3 z
        · exact a4 z
      · rcases List.mem_append.mp hp with hp | hp
        · obtain ⟨a1, a2, a3, a4, a5⟩ := I2.pin p (List.mem_append_right _ hp)
          refine ⟨old _ _ a1, a2, (below _ (Heap.lt_size a1)).1, fun z => ?_, a5⟩
          rcases List.mem_cons.mp (I2.stkSub _ z) with z | z
          · exact a3 z
          · exact a4 z
        · have e : p = (s2.heap.objs.size, LCg.lst []) := by simpa using hp
          subst e
          refine ⟨hacc, fresh2 _ (Nat.le_refl _), hDC, fun z => ?_, fun v z => by cases z⟩
          rcases List.mem_cons.mp (I2.stkSub _ z) with z | z
          · exact absurd I2.lt (by rw [← z]; exact Nat.lt_irrefl _)
          · exact I2.nofs (Nat.le_refl _) z
    · show (capσ2 caps σ none none).length = (x1 :: x2 :: ns).length
      have := congrArg List.length CS.at_
      simp only [List.length_map] at this
      simp [capσ2, this]
  have loop : ∀ s₃ : Shared, s₃ = { s2 with heap := h₁, toks := s2.toks + ([] : List (Str × Value)).length } →
      codeAny (model X.prog X.w) X.A (.compLoop (.ListComp elt [⟨.Tuple [.Name x1 px1, .Name x2 px2] ktu ptu, iter, ifs, 0⟩] scope pos) 0 (.ref it) (.ref s2.heap.objs.size) (compEnvC scope cl C X.env))
        (compPost (model X.prog X.w) X.A X.xe use Q (.ref s2.heap.objs.size) C) s₃ := by
    rintro s₃ rfl
    refine compLoop_own (fun n s' => ∃ i ys us H', Inv (X.comp (x1 :: x2 :: ns) scope cl C s2 H2 fp) (pins ++ [(s2.heap.objs.size, LCg.lst us)]) (capσ2 caps σ none none) H' s' ∧ Vals ys us ∧ tn i s'.heap ∧ (∀ b ∈ fp, H' b = none) ∧ W i n ys H') ?_ m0
      ⟨0, [], [], H2, I0, .nil, T.keep _ _ _ st2 (fun b _ o e => old b o e), fun b hb => (f2 b hb).1, w0⟩
    rintro n s3 ⟨i, ys, us, H3, I3, rv, st3, fr3, w3⟩
    obtain ⟨hle, hstep⟩ := turn i n ys H3 w3
    have pinlt : ∀ p ∈ X.pn ++ pins, p.1 < s2.heap.objs.size := fun p hp => Heap.lt_size (I2.pin p hp).1
    have stat : ∀ {H' : Hp}, (∀ b ∈ fp, H' b = none) → ∀ b ∈ fp, FpOk (X.comp (x1 :: x2 :: ns) scope cl C s2 H2 fp) (pins ++ [(s2.heap.objs.size, LCg.lst us)]) H' b := fun hn b hb =>
      ⟨hn b hb, (below b (nfp b hb)).1, ok'.exfs b hb, .inl hb, fun y c e z => (f2 b hb).2.2.2.2.1 y c (clsub y c e) z, fun p hp => by
        rcases List.mem_append.mp hp with hp | hp
        · exact (f2 b hb).2.2.2.2.2 p (List.mem_append_left _ hp)
        · rcases List.mem_append.mp hp with hp | hp
          · exact (f2 b hb).2.2.2.2.2 p (List.mem_append_right _ hp)
          · have e : p = (s2.heap.objs.size, LCg.lst us) := by simpa using hp
            subst e
            exact Ne.symm (below b (nfp b hb)).2⟩
    have memD : ∀ (l : List (Addr × Obj)), (s2.heap.objs.size, LCg.lst us) ∈ (X.comp (x1 :: x2 :: ns) scope cl C s2 H2 fp).pn ++ ((pins ++ [(s2.heap.objs.size, LCg.lst us)]) ++ l) := fun l =>
      List.mem_append_right _ (List.mem_append_left _ (List.mem_append_right _ List.mem_cons_self))
    rcases hstep with ⟨stop, r⟩ | ⟨go, Nx, hNx, step⟩
    · refine thn (T.done (X.comp (x1 :: x2 :: ns) scope cl C s2 H2 fp) rfl rfl rfl hc i _ s3 _ H3 _ I3 (stat fr3) st3 stop) fun r' s4 ⟨hr, I4⟩ => ?_
      subst hr
      have pD := I4.pin (s2.heap.objs.size, LCg.lst us) (List.mem_append_right _ (List.mem_append_right _ List.mem_cons_self))
      have hDn : H3 s2.heap.objs.size = none := pD.2.1
      have hCn : H3 C = none := I4.free
      have b4 : Un (frs X.stack) fp H2 H3 s2.heap s4.heap := I4.base
      have u4 : Un (frs X.stack) fp H2 (upd H3 s2.heap.objs.size (.lst ys)) s2.heap s4.heap :=
        ⟨b4.keep, b4.slot, fun b o e n hx => by rw [upd_ne (below b (Heap.lt_size e)).2]; exact b4.free b o e n hx, b4.there,
          fun b xs q => by rw [upd_ne (ne_of_none (b4.tups b xs q) hDn)]; exact b4.tups b xs q, fun b o u q => by rw [upd_ne (ne_of_none (b4.frzs b o u q) hDn)]; exact b4.frzs b o u q,
          fun b ps q => by
            obtain ⟨m1, e1⟩ := b4.tbls b ps q
            exact ⟨m1, by rw [upd_ne (ne_of_none e1 hDn)]; exact e1⟩⟩
      have k4 : HOk X.prog X.w (upd H3 s2.heap.objs.size (.lst ys)) s4.heap := fun b u e => by
        by_cases hb : b = s2.heap.objs.size
        · subst hb
          rw [upd_same] at e
          cases e
          exact ⟨hle, us, _, rv, pD.1⟩
        · rw [upd_ne hb] at e
          exact (I4.hok b u e).stay (fun c v _ q => q) (fun c q => by rw [upd_ne (ne_of_none q hDn)]; exact q) fun c xs q => by rw [upd_ne (ne_of_none q hDn)]; exact q
      have J4 : Inv X pins σ (upd H3 s2.heap.objs.size (.lst ys)) s4 := I2.call' (ch := fp) I4.os u4 k4 I4.bare fun b hb => ⟨(f2 b hb).2.2.2.1, (f2 b hb).2.1, (f2 b hb).2.2.2.2.1, (f2 b hb).2.2.2.2.2⟩
      obtain ⟨mC, hnC, _⟩ := I4.loc
      exact hend _ C s4 H3 ys J4 hDn r ⟨mC, hnC⟩ (by rw [upd_ne (Ne.symm hDC)]; exact hCn) (Ne.symm (below _ I2.lt).1) (by rw [hC]; exact Nat.le_succ_of_le I2.sz) (fun y c e => (below c (ltC y c e)).1) fun p hp => (below _ (pinlt p hp)).1
    · refine thn (T.item (X.comp (x1 :: x2 :: ns) scope cl C s2 H2 fp) rfl rfl rfl hc i _ s3 _ H3 _ I3 (stat fr3) st3 go) fun r' s4 ⟨u, hr, h4⟩ => ?_
      subst hr
      refine thn h4 fun _ s5 ⟨v, H5, I5, r5, y5, st5, fr5⟩ => ?_
      have I5' := I5.pinned (stat fr5) (T.obj _ _ st5)
      obtain ⟨aT, v1, v2, ev, hT, step'⟩ := step v H5 y5
      have PGt : PG (X.comp (x1 :: x2 :: ns) scope cl C s2 H2 fp) (.Tuple [.Name x1 px1, .Name x2 px2] ktu ptu) (gTup X.K 2 (gCons (gName 0) (gCons (gName 1) gNil))) :=
        pg_tup (X := X.comp (x1 :: x2 :: ns) scope cl C s2 H2 fp) hc (pgs_cons (pg_name (i := 0) CS.nd rfl (.inl (lookup_relabel_local CS.var1)) (.inr (lookup_relabel_local CS.var1)))
          (pgs_cons (pg_name (i := 1) CS.nd rfl (.inl (lookup_relabel_local CS.var2)) (.inr (lookup_relabel_local CS.var2))) pgs_nil))
      refine wpAny_mono (PGt _ s5 _ H5 v u (fun σ' H' => σ' = capσ2 caps σ (some v1) (some v2) ∧ H' = H5) I5' r5 ⟨aT, [v1, v2], ev, hT, rfl, v1, [v2], rfl, v2, [], rfl, rfl, rfl, rfl⟩) (fun _ s6 hs6 => ?_) (fun _ _ e => e.elim)
      obtain ⟨σ6, H6, I6', e6, e6'⟩ := hs6
      subst e6'
      subst e6
      refine wpAny_mono (ht cl C s2 H2 fp _ s6 _ _ _ I6' step') (fun b s7 ⟨H7, I7, q7⟩ => ?_) (fun _ _ e => e.elim)
      have weak : ∀ {H' : Hp} {s' : Shared} {pl : List (Addr × Obj)}, Inv (X.comp (x1 :: x2 :: ns) scope cl C s2 H2 fp) pl (capσ2 caps σ (some v1) (some v2)) H' s' → Inv (X.comp (x1 :: x2 :: ns) scope cl C s2 H2 fp) pl (capσ2 caps σ none none) H' s' := fun {H' s' pl} J' =>
        J'.weak rfl fun k z e => by
          match k, e with
          | 0, e => cases e
          | 1, e => cases e
          | k + 2, e => exact e
      have keepT : ∀ {H' : Hp} {s' : Shared}, Inv (X.comp (x1 :: x2 :: ns) scope cl C s2 H2 fp) ((pins ++ [(s2.heap.objs.size, LCg.lst us)]) ++ pinsAt fp s5.heap) (capσ2 caps σ (some v1) (some v2)) H' s' → tn (i + 1) s'.heap ∧ ∀ b ∈ fp, H' b = none := fun {H' s'} J' => by
        refine ⟨T.keep _ _ _ st5 fun b hb o e => (J'.pin (b, o) (List.mem_append_right _ (List.mem_append_right _ (mem_pinsAt hb e)))).1, fun b hb => ?_⟩
        obtain ⟨o, e, d⟩ := T.obj _ _ st5 b hb
        exact (J'.pin (b, o) (List.mem_append_right _ (List.mem_append_right _ (mem_pinsAt hb e)))).2.1
      cases b with
      | false =>
        rw [if_neg Bool.false_ne_true] at q7 ⊢
        obtain ⟨m', hm, w7⟩ := hNx _ _ q7
        exact ⟨m', hm, i + 1, ys, us, H7, weak I7.unpinned, rv, (keepT I7).1, (keepT I7).2, w7⟩
      | true =>
        rw [if_pos rfl] at q7 ⊢
        refine wpAny_mono (he cl C s2 H2 fp _ s7 _ H7 _ I7 q7) (fun yv s8 ⟨y, H8, I8, ry, n8⟩ => ?_) (fun _ _ e => e.elim)
        obtain ⟨m', hm, w8⟩ := hNx _ _ n8
        have pD := I8.pin (s2.heap.objs.size, LCg.lst us) (memD _)
        have hul : us.length = ys.length := rv.length.symm
        refine append_at (hsz := by show us.toArray.size ≤ sizeLine; rw [List.size_toArray, hul]; exact hle) pD.1 fun h9 hs9 hD9 => ?_
        have I8p : Inv (X.comp (x1 :: x2 :: ns) scope cl C s2 H2 fp) pins (capσ2 caps σ none none) H8 s8 := weak I8.unpinned.unpinned
        have I9 : Inv (X.comp (x1 :: x2 :: ns) scope cl C s2 H2 fp) pins (capσ2 caps σ none none) H8 { s8 with heap := h9 } := I8p.turned (t' := s8.toks) (it := s2.heap.objs.size) (fun b o hb e => (hs9.2 b hb).trans e) pD.2.1 hDC (.inr (Nat.le_refl _)) (fun y c e z => Nat.ne_of_lt (ltC y c (clsub y c e)) z) fun p hp => Nat.ne_of_lt (pinlt p hp)
        have I9' : Inv (X.comp (x1 :: x2 :: ns) scope cl C s2 H2 fp) (pins ++ [(s2.heap.objs.size, LCg.lst (us ++ [yv]))]) (capσ2 caps σ none none) H8 { s8 with heap := h9 } := I9.pins_of fun p hp => by
          rcases List.mem_append.mp hp with hp | hp
          · exact I9.pin p (List.mem_append_right _ hp)
          · have e : p = (s2.heap.objs.size, LCg.lst (us ++ [yv])) := by simpa using hp
            subst e
            exact ⟨hD9.trans (congrArg some (LCg.lst_snoc us yv)), pD.2.1, hDC, pD.2.2.2.1, fun v z => by cases z⟩
        refine ⟨m', hm, i + 1, ys ++ [y], us ++ [yv], H8, I9', rv.append (.cons ry .nil), ?_, (keepT I8).2, w8⟩
        exact T.keep _ _ _ (keepT I8).1 fun b hb o e => (hs9.2 b (below b (nfp b hb)).2).trans e
  exact codeAny_compStart_list (loop _ rfl) (T.self X.A 0 _ _ _ (T.keep _ _ _ st2 (fun b _ o e => old b o e)) (loop _ rfl))

end

/-- over zip(l1, l2), both left as they are -/
theorem comp_zip {K : PySem.W.Frag} {l1 l2 : Addr} {xs ys : List V} {caps : List Nat} {tt : TT} {te : TE} {σ : St} {H : Hp} {R : List V → Hp → Prop} (hle : xs.length = ys.length) (Pv : Nat → List V → Hp → Prop) (h0 : Pv 0 [] H)
    (hl : ∀ i zs H, i ≤ xs.length → Pv i zs H → SqL K H l1 xs ∧ SqL K H l2 ys ∧ zs.length ≤ sizeLine)
    (hs : ∀ i x y zs H T, xs[i]? = some x → ys[i]? = some y → Pv i zs H → H T = none → tt (capσ2 caps σ (some x) (some y)) (upd H T (.tup [x, y])) fun b H2 => if b = true then te (capσ2 caps σ (some x) (some y)) H2 fun z H3 => Pv (i + 1) (zs ++ [z]) H3 else Pv (i + 1) zs H2)
    (hd : ∀ zs H, Pv xs.length zs H → R zs H) :
    ∃ W : Nat → Nat → List V → Hp → Prop, (∃ m, W 0 m [] H) ∧ ∀ i m zs H, W i m zs H → zs.length ≤ sizeLine ∧ (((Itz K l1 l2).stop i H ∧ R zs H) ∨ ((Itz K l1 l2).go i H ∧ ∃ N : List V → Hp → Prop, (∀ ys' H', N ys' H' → ∃ m', m' < m ∧ W (i + 1) m' ys' H') ∧ ∀ v H', (Itz K l1 l2).yld i H v H' →
      ∃ a v1 v2, v = .ref a ∧ SqT K H' a [v1, v2] ∧ tt (capσ2 caps σ (some v1) (some v2)) H' fun b H2 => if b = true then te (capσ2 caps σ (some v1) (some v2)) H2 fun y H3 => N (zs ++ [y]) H3 else N zs H2)) := by
  refine ⟨fun i m zs H => m = xs.length - i ∧ i ≤ xs.length ∧ Pv i zs H, ⟨xs.length, by simp, Nat.zero_le _, h0⟩, ?_⟩
  rintro i m zs H ⟨rfl, hi, p⟩
  obtain ⟨q1, q2, hz⟩ := hl i zs H hi p
  refine ⟨hz, ?_⟩
  by_cases hlt : i < xs.length
  · have hlt2 : i < ys.length := by omega
    refine .inr ⟨⟨xs, ys, xs[i], ys[i], q1, q2, by simp [hlt], by simp [hlt2]⟩, Pv (i + 1), fun ys' H' p' => ⟨xs.length - (i + 1), by omega, rfl, hlt, p'⟩, fun v H' y => ?_⟩
    obtain ⟨T, x, z, y1, hT, rfl, rfl⟩ := y
    obtain ⟨e1, e2⟩ := y1 xs ys q1 q2
    exact ⟨T, x, z, rfl, SqT.of upd_same, hs i x z zs H T e1 e2 p hT⟩
  · have e : i = xs.length := by omega
    subst e
    exact .inl ⟨⟨xs, ys, q1, q2, .inl (Nat.le_refl _)⟩, hd zs H p⟩
section
variable {X : Cx}
theorem pe_comp2 {x1 x2 : Str} {px1 px2 ptu : Pos} {ktu : Nat} {iter elt : Expr} {ifs : List Expr} {scope sc : Scope} {N : List Str} {pos : Pos} {wi : TI} {tt : TT} {te : TE} {caps : List Nat} {ns : List Str} {K : PySem.W.Frag}
    (CS : CompScope2 N sc scope x1 x2 caps ns) (hN' : X.N = N) (hsc : X.env.scope = sc) (hc : X.calm = true) (hi : PI X (.Tuple [.Name x1 px1, .Name x2 px2] ktu ptu) iter wi)
    (ht : ∀ cl C s H fp, PTs (X.comp (x1 :: x2 :: ns) scope cl C s H fp) ifs tt) (he : ∀ cl C s H fp, PE (X.comp (x1 :: x2 :: ns) scope cl C s H fp) elt te)
    (hs : ∀ v, foldedSetIterable iter X.env v = pure v := by intro _; rfl) (hK : X.K = K := by rfl) :
    PE X (.ListComp elt [⟨.Tuple [.Name x1 px1, .Name x2 px2] ktu ptu, iter, ifs, 0⟩] scope pos) (tComp2 K wi caps tt te) := by
  intro pins s σ H Q I h
  subst hN'; subst hsc; subst hK
  rw [eval_ListComp]
  refine comp_core2 CS hc hi ht he hs I h ?_
  rintro D C s' H' ys I' hD r ⟨m, hn⟩ c1 c2 c3 c4 c5
  exact ⟨m, hn, fun h' hs' => ⟨.ref D, _, I'.turned (t' := s'.toks) (fun b o hb e => (hs'.2 b hb).trans e) c1 c2 (.inr c3) c4 c5, rfl, r D hD⟩⟩

/-- y = [.. for ..], y a plain local, on one line -/
theorem ps_setComp2 {i : Nat} {x1 x2 y : Str} {px1 px2 ptu py : Pos} {ktu : Nat} {iter elt : Expr} {ifs : List Expr} {scope sc : Scope} {N : List Str} {pos spos : Pos} {wi : TI} {tt : TT} {te : TE} {caps : List Nat} {ns : List Str} {K : PySem.W.Frag} (hN : X.N.Nodup) (hi : X.N[i]? = some y)
    (hy : X.env.scope.names.lookup y = some .local) (CS : CompScope2 N sc scope x1 x2 caps ns) (hN' : X.N = N) (hsc : X.env.scope = sc) (hc : X.calm = true) (hit : PI X (.Tuple [.Name x1 px1, .Name x2 px2] ktu ptu) iter wi)
    (ht : ∀ cl C s H fp, PTs (X.comp (x1 :: x2 :: ns) scope cl C s H fp) ifs tt) (he : ∀ cl C s H fp, PE (X.comp (x1 :: x2 :: ns) scope cl C s H fp) elt te)
    (hsw : swapsWith (.ListComp elt [⟨.Tuple [.Name x1 px1, .Name x2 px2] ktu ptu, iter, ifs, 0⟩] scope pos) (some (.Name y py)) spos.line X.env = pure true := by rfl)
    (hs : ∀ v, foldedSetIterable iter X.env v = pure v := by intro _; rfl) (hK : X.K = K := by rfl) :
    PS X (.Assign [.Name y py] (.ListComp elt [⟨.Tuple [.Name x1 px1, .Name x2 px2] ktu ptu, iter, ifs, 0⟩] scope pos) spos) (tAsg (tComp2 K wi caps tt te) (gName i)) := by
  intro pins s σ H D I h
  subst hN'; subst hsc; subst hK
  rw [exec_Assign_Name_used _ _ _ _ hsw]
  refine wpAny_bind (wpAny_standAt (wpAny_bind ?_))
  show wpAny _ X.A (do let _ ← comprehension (.ListComp elt [⟨.Tuple [.Name x1 px1, .Name x2 px2] ktu ptu, iter, ifs, 0⟩] scope pos) scope X.env _ (newList []) false (eval iter X.env) (some (assign (.Name y py) X.env))) _ _ s
  refine wpAny_bind (wpAny_mono (comp_core2 (use := some (assign (.Name y py) X.env)) (Q := fun _ s' => SP X pins D .next s') CS hc hit ht he hs I h ?_) (fun _ s' hq => wpAny_pure (wpAny_pure hq)) fun _ _ e => e)
  rintro D' C s' H' ys I' hD r ⟨m, hn⟩ c1 c2 c3 c4 c5
  show wpAny _ _ (assign (.Name y py) X.env (.ref D')) _ _ s'
  refine wpAny_assign_Name (store_ok2 (v := .ref D') I' hN hi (.inl hy) rfl (fun s'' I'' ⟨a, sb, ha⟩ => ?_) (.inr hy))
  have hCa : C ≠ a := by
    rcases ha with e | e
    · rw [e]; exact c2
    · exact Ne.symm (c4 y a e)
  exact ⟨m, hn.sameBut sb hCa, fun h' hs' => ⟨_, _, I''.turned (t' := s''.toks) (fun b o hb e => (hs'.2 b hb).trans e) c1 c2 (.inr c3) c4 c5, r D' hD⟩⟩
end
end L2
/-! OWN RULES: wide numbers (products, quotients), tuples compared, the script's numbers are not too wide -/
namespace L2
open PySem PySem.Spec PyProof.Rows
section
variable {X : Cx} {K : PySem.W.Frag}
theorem op_mulW : OpR X (binaryOp .Mult) (rI IntMulOk fun i j => .int (i * j)) := opI fun _ _ _ _ _ _ _ hc q => mul_int q hc
theorem op_fdivW : OpR X (binaryOp .FloorDiv) (rI (fun _ j => j ≠ 0 ∧ j.natAbs.log2 < 9000) fun i j => .int (i.fdiv j)) := opI fun _ _ _ _ _ _ _ hc q => floordiv_int hc.1 q (.inl (PyProof.noPylong_of_log2 hc.2))
def rEqT (K : PySem.W.Frag) (k : Bool) : R2 := fun x y H Q => ∃ a b xs, x = .ref a ∧ y = .ref b ∧ SqT K H a xs ∧ SqT K H b xs ∧ xs.all plainV = true ∧ Q (.bl k) H
theorem op_eqT (hu : X.A.units < cLine) : OpR X (compareOp .Eq) (rEqT X.K true) := by
  intro pins s σ H x y v u Q I rx ry h
  obtain ⟨a, b, xs, rfl, rfl, ha, hb, hp, q⟩ := h
  cases rx; cases ry
  obtain ⟨its, r, pl, _⟩ := I.tuple ha
  obtain ⟨its2, r2, pl2, _⟩ := I.tuple hb
  have hl : its.length = its2.length := by rw [← r.length, ← r2.length]
  refine SeqAt.eq_tupleAt (e := fun _ => true) pl pl2 hu (fun j h1 h2 => vals_same r r2 hp j h1 h2) ⟨.bl true, H, I, ?_, q⟩
  have : ((List.range (min its.toArray.size its2.toArray.size)).all (fun _ => true) && its.toArray.size == its2.toArray.size) = true := by simp [hl]
  rw [this]; rfl
theorem op_neT (hu : X.A.units < cLine) : OpR X (compareOp .NotEq) (rEqT X.K false) := by
  intro pins s σ H x y v u Q I rx ry h
  obtain ⟨a, b, xs, rfl, rfl, ha, hb, hp, q⟩ := h
  cases rx; cases ry
  obtain ⟨its, r, pl, _⟩ := I.tuple ha
  obtain ⟨its2, r2, pl2, _⟩ := I.tuple hb
  have hl : its.length = its2.length := by rw [← r.length, ← r2.length]
  refine SeqAt.RcNeAt.tuples (e := fun _ => true) pl pl2 hu (fun j h1 h2 => vals_same r r2 hp j h1 h2) X.prog X.w X.xe _ ⟨.bl false, H, I, ?_, q⟩
  have : ((List.range (min its.toArray.size its2.toArray.size)).all (fun _ => true) && its.toArray.size == its2.toArray.size) = true := by simp [hl]
  rw [this]; rfl
theorem kEqT (hu : X.A.units < cLine) (hK : X.K = K := by rfl) : OpR X (compareOp .Eq) (rEqT K true) := by subst hK; exact op_eqT hu
theorem kNeT (hu : X.A.units < cLine) (hK : X.K = K := by rfl) : OpR X (compareOp .NotEq) (rEqT K false) := by subst hK; exact op_neT hu
end
end L2
namespace Att
open PySem PySem.W PySem.Calls PyProof.Rows
theorem ints_bits {ns : List Int} (h : WData.layableAll [WData.list (ns.map WData.int)] = true) : ∀ n ∈ ns, Builtin.Int.intBits n ≤ 2 ^ 20 := fun n hn =>
  PyData.bits_of_layable (layable0_of_all (lay0_int (layableW_item (layW_cons h).1 (.int n) (List.mem_map.mpr ⟨n, hn, rfl⟩))))
theorem attach_callB {l : OpenLaw} {n : Nat} {q : Program} {loose : List Str} {XP : (Str → Option Value) → Heap → Prop} {YP : World → Heap → Prop} {d : DefRec}
    (hn : l.most = some n) (hdf : d.params.defaults = [])
    (call : ∀ (w : World) (s₀ s₁ : Shared) (mg mb : Str → Option Value) (fa : Addr) (o : Obj) (pm cd doc : Value) (a : Addr) (vs : List Value) (ns : List Int),
      Ground q loose [] XP w s₀ mg mb s₁.heap → YP w s₁.heap →
      s₁.heap.get? fa = some o → o.data = .func (docDef d.name d.params d.body d.scope pm cd doc) → s₁.heap.CodeRec cd d.name → mg d.name = some (.ref fa) →
      s₁.heap.get? a = some { cls := .type "list", data := .seq vs.toArray } → IntsAre vs ns → ns.length ≤ n → (∀ m ∈ ns, Builtin.Int.intBits m ≤ 2 ^ 20) → s₁.gens = #[] →
      codeAny (model l.prog w) callerA (.call (.ref fa) ⟨[.ref a], []⟩) (fun r s' => r = .ok (.ret (.bool true)) ∧ OldK s₁.heap s'.heap ∧ s'.os = s₁.os ∧ AllBare s'.gens) s₁) :
    WalkO q loose XP YP l.row.toRowW d [] (fun f vs => PySem.call f vs) := by
  intro w s₀ s₁ mg mb G Y fa o pm cd doc dV kV ho hd hcd hD hmg hg args vals as hpre hlay hrd hwl hlo
  obtain rfl : dV = .none := Dflts.none hD hdf
  obtain rfl : kV = .none := Dflts.noKw hD
  obtain ⟨a, vs, ns, rfl, rfl, hobj, hints, hlen⟩ := script_of hn hpre hwl
  refine enter_call (codeAny_mono (call w s₀ s₁ mg mb fa o pm cd doc a vs ns G Y ho (fd_plain hd) hcd hmg hobj hints hlen (ints_bits hlay) hg) fun r s' hq => ?_)
  obtain ⟨rfl, h2, h3, h4⟩ := hq
  exact ⟨.inl ⟨.bool true, .bool true, [], rfl, fun _ => rfl, .bool true, post_true l _, fun _ => ⟨List.Pairwise.nil, fun _ hm => (nomatch hm)⟩⟩, h2, h3, h4⟩
end Att
namespace L2
open PySem PySem.Spec PyProof.Rows
theorem walk_ofB {l : PySem.W.OpenLaw} {n k : Nat} {q : Program} {loose : List Str} {XP : (Str → Option Value) → Heap → Prop} {YP : World → Heap → Prop} {d : DefRec} {K : Params → PySem.W.Frag} {CX : World → CXT} {sp : World → Sp} {x : Str}
    (hn : l.most = some n) (hn2 : n ≤ sizeLine) (hdf : d.params.defaults = []) (hr : Room k callerA)
    (hY : ∀ (w : World) (h : Heap), YP w h → (K w.params).In h)
    (F : ∀ (w : World) (mg : Str → Option Value) (fa : Addr) (h : Heap), (K w.params).In h → h.Ns mainGlobals mg → mg d.name = some (.ref fa) →
      ∃ fd : FuncData, (∀ (s : Shared) (u : Value), BindsTo s fd ⟨[u], []⟩ [(x, u)]) ∧
        ∀ base : Heap, (K w.params).In base → base.Ns mainGlobals mg → FnOk l.prog w (K w.params) mg base (CX w) k fa fd [x] (sp w))
    (hsp : ∀ (w : World) (H : Hp) (a : Addr) (ns : List Int), ns.length ≤ n → (∀ m ∈ ns, Builtin.Int.intBits m ≤ 2 ^ 20) → Only H → SqL (K w.params) H a (ns.map V.int) → sp w [.ref a] H (fun v _ => v = .bl true) fun _ _ _ => False)
    (hCX : ∀ (w : World) (H : Hp) (s : Shared) (e : Value) (s' : Shared), CX w [] H s (fun _ _ _ => False) e s' → False) :
    PySem.W.WalkO q loose XP YP l.row.toRowW d [] (fun f vs => PySem.call f vs) := by
  refine Att.attach_callB hn hdf fun w s₀ s₁ mg mb fa o pm cd doc a vs ns G Y ho hd hcd hmg hobj hints hlen hbits hg => ?_
  have KX := hY w _ Y
  obtain ⟨fd, hb, hF⟩ := F w mg fa _ KX G.T.g hmg
  exact law_call KX G.T.g G.T.b G.T.builtins G.T.nolimit hg hobj hints (Nat.le_trans hlen hn2) hr hF hb (fun H hO hS => hsp w H a ns hlen hbits hO hS) fun H e s' => hCX w H s₁ e s'
end L2
/-! OWN RULES: == of lists of unlike lengths, an empty tuple put ahead, index of a text, pop(0) -/
namespace L2
open PySem PySem.Spec PyProof.Rows
section
variable {X : Cx} {K : PySem.W.Frag}
def rEqLen (K : PySem.W.Frag) : R2 := fun x y H Q => ∃ a b xs ys, x = .ref a ∧ y = .ref b ∧ SqL K H a xs ∧ SqL K H b ys ∧ xs.length ≠ ys.length ∧ Q (.bl false) H
theorem op_eqLen (hu : X.A.units < cLine) : OpR X (compareOp .Eq) (rEqLen X.K) := by
  intro pins s σ H x y v u Q I rx ry h
  obtain ⟨a, b, xs, ys, rfl, rfl, ha, hb, hp, q⟩ := h
  cases rx; cases ry
  obtain ⟨its, r, pl, _⟩ := I.list ha
  obtain ⟨its2, r2, pl2, _⟩ := I.list hb
  have hl : its.length ≠ its2.length := by rw [← r.length, ← r2.length]; exact hp
  exact SeqAt.eq_list_lengthsAt pl.isList pl2.isList (by simpa using hl) hu ⟨.bl false, H, I, rfl, q⟩
theorem kEqL (hu : X.A.units < cLine) (hK : X.K = K := by rfl) : OpR X (compareOp .Eq) (fun x y H Q => rEqL K true x y H Q ∨ rEqLen K x y H Q) := by
  subst hK; exact (op_eqL hu).or (op_eqLen hu)
def rIndex : V → List V → Hp → VK → Prop := fun x vs H Q => ∃ (z y : Str) (i : Nat) (rest : List Nat), x = .str z ∧ vs = [.str y] ∧ Builtin.Str.occurrences z y 0 z.length 1 = i :: rest ∧ Q (.int (i : Nat)) H
theorem mt_index : MtR X "str.index" rIndex := by
  intro pins s σ H x vs v us Q I rx rv h
  obtain ⟨z, y, i, rest, rfl, rfl, ho, q⟩ := h
  obtain ⟨t, rfl⟩ := rx
  obtain ⟨u, rfl, t2, rfl⟩ := vals1 rv
  exact SC.index ho ⟨.int (i : Nat), H, I.tok _, ⟨_, rfl⟩, q⟩
def rCatT0 (K : PySem.W.Frag) : R2 := fun x y H Q => ∃ a b ys, x = .ref a ∧ y = .ref b ∧ SqT K H a [] ∧ SqT K H b ys ∧ Q (.ref b) H
theorem op_catT0 : OpR X (binaryOp .Add) (rCatT0 X.K) := by
  intro pins s σ H x y v u Q I rx ry h
  obtain ⟨a, b, ys, rfl, rfl, ha, hb, q⟩ := h
  cases rx
  cases ry
  obtain ⟨its, r1, p1, _⟩ := I.tuple ha
  obtain ⟨its2, r2, p2, hz⟩ := I.tuple hb
  have e0 : its = [] := r1.nil_iff.mpr rfl
  subst e0
  obtain ⟨⟨cls, dd, data, sl⟩, ho, hc, n, hd⟩ := id p1
  obtain ⟨⟨cls2, dd2, data2, sl2⟩, ho2, hc2, n2, hd2⟩ := id p2
  simp only at hc hd hc2 hd2
  subst hc hd hc2 hd2
  exact concat_meets ⟨_, ho, rfl⟩ ⟨_, ho2, rfl⟩ noFill_tuple_add seq_tuple_add PySem.F.slot_tuple_add PySem.F.entry_tuple_add (PySem.F.args_tuple_add_2 _ _)
    (tuple_addW0 a b _ _ n n2 dd dd2 sl sl2 (by simp)) ⟨ho, ho2, ⟨.ref b, H, I, rfl, q⟩⟩
theorem kAddT (hK : X.K = K := by rfl) : OpR X (binaryOp .Add) (fun x y H Q => rI0 (fun i j => .int (i + j)) x y H Q ∨ rCatT K x y H Q ∨ rCatT0 K x y H Q) := by
  subst hK; exact op_add.or (op_catT.or op_catT0)
end
end L2
/-! OWN RULES: enumerate(xs, start=n) of a list, walked with a pair of names -/
namespace PySem
open AutoSeq1 (wpAny_loadPart')
theorem enumNewAt (l : Addr) (items : Array Value) (n : Nat) (dc : Option Addr) (sl : Array (Option Value)) (k : Int) (t : Tok) (hk : Builtin.SmallTypes.fitsIndex k = true) :
    Meets (Builtin.«enumerate.__new__» ⟨[.type "enumerate", .ref l], [("start", .int k t)]⟩) (fun _ R s => s.heap.get? l = some { cls := .type "list", dict := dc, data := .seq items n, slots := sl } ∧
      R (.ok (.ret (.ref (s.heap.objs.size + 1)))) { s with heap := (s.heap.push { cls := .type "list_iterator", data := .fields #[.ref l, .int 0 0] }).push { cls := .type "enumerate", data := .fields #[.none, .bool false, .ref s.heap.objs.size, rawInt k, .none, .none] } }) := by
  refine .of_wp fun prog w A R s h => ?_
  obtain ⟨hp, g, d, tk, os⟩ := s
  obtain ⟨hl, h⟩ := h
  have hsub := sub_enumerate
  have hz : (hp.push { cls := .type "list_iterator", data := .fields #[.ref l, .int 0 0] }).objs.size = hp.objs.size + 1 := Heap.size_push ..
  have hL : Heap.IsList (Shared.heap ⟨hp, g, d, tk, os⟩) l items := ⟨_, hl, rfl, n, rfl⟩
  wp_walk using wpAny_loadPart' hl
  refine wpAny_stack_any fun st => wpAny_pure ?_
  have h2 : R (.ok (.ret (.ref (hp.objs.size + 1)))) ⟨(hp.push { cls := .type "list_iterator", data := .fields #[.ref l, .int 0 0] }).push { cls := .type "enumerate", data := .fields #[.none, .bool false, .ref hp.objs.size, rawInt k, .none, .none] }, g, d, tk, os⟩ := h
  rw [← hz] at h2
  split
  · rename_i c _ _ _ _ _
    cases (c == Value.type "enumerate")
    all_goals
      wp_walk using wpAny_loadPart' hl, wpAny_pyIter_list hL
      exact ⟨_, rfl, h2⟩
  · wp_walk using wpAny_loadPart' hl, wpAny_pyIter_list hL
    exact ⟨_, rfl, h2⟩
section
variable {prog : Program} {w : World} {A : Around} {E : Value → Shared → Prop} {s : Shared}
theorem enumInitOk (o a v : Value) : argsOk "object.__init__" ⟨[o, a], [("start", v)]⟩ := by
  unfold argsOk
  rw [signature?_of (id := "object.__init__") (n := ['_', '_', 't', 'i', 'n', 'i', '_', '_']) (o := ['t', 'c', 'e', 'j', 'b', 'o']) (by kernel_rfl) F.owner_object]
  kernel_rfl
theorem enumInit (o a v : Value) : Meets (Builtin.«object.__init__» ⟨[o, a], [("start", v)]⟩) (fun _ R s => s.TypeIs o "enumerate" ∧ R (.ok (.ret .none)) s) := by
  refine .of_wp fun prog w A R s hs => ?_
  obtain ⟨hT, hq⟩ := hs
  have hm := F.called_enumerate.made
  have hl := F.slot_enumerate_init.lookup
  repeat (any_goals (first | assumption | wp_step))
  exact ⟨_, rfl, hq⟩
theorem enum_called {l : Addr} {items : Array Value} {k : Int} {t : Tok} {Q : Value → Shared → Prop} (hL : s.heap.IsList l items) (hk : Builtin.SmallTypes.fitsIndex k = true)
    (h : ∀ h', IsEnum h' (s.heap.objs.size + 1) s.heap.objs.size k .none → h'.IsListIter s.heap.objs.size l 0 → (∀ b o, s.heap.get? b = some o → h'.get? b = some o) → Q (.ref (s.heap.objs.size + 1)) { s with heap := h' }) :
    wpAny (model prog w) A (call (.type "enumerate") [.ref l] [("start", .int k t)]) Q E s := by
  obtain ⟨⟨c, dc, dt, sl⟩, hl, hc, n, hd⟩ := hL
  replace hc : c = .type "list" := hc
  replace hd : dt = .seq items n := hd
  subst hc hd
  obtain ⟨c, tl, hmro⟩ := F.called_enumerate.mro
  have hmade := F.called_enumerate.made
  have hsub := F.called_enumerate.sub
  have hcn : checkBuiltinCall "enumerate.__new__" ⟨[.type "enumerate", .ref l], [("start", .int k t)]⟩ = pure () := by kernel_rfl
  have hct : checkTypeCall "enumerate" ⟨[.ref l], [("start", .int k t)]⟩ = pure () := by kernel_rfl
  have h1 := F.called_enumerate.notType
  have h2 := F.called_enumerate.canCreate
  refine wpAny_call (codeAny_of_tree ?_)
  show wpAny _ _ (callAny (.type "enumerate") _) _ _ _
  refine wpAny_pure ⟨Code.quiet_builtin _ (by decide +kernel), codeAny_builtin F.entry_type_call ?_⟩
  rw [Around.under_plain (weight_type_call_type "enumerate" _ _) (units_type_call_type "enumerate" _ _)]
  repeat (any_goals (first | assumption | wp_step))
  have hz : (s.heap.push { cls := .type "list_iterator", data := .fields #[.ref l, .int 0 0] }).objs.size = s.heap.objs.size + 1 := Heap.size_push ..
  have he : IsEnum ((s.heap.push { cls := .type "list_iterator", data := .fields #[.ref l, .int 0 0] }).push { cls := .type "enumerate", data := .fields #[.none, .bool false, .ref s.heap.objs.size, rawInt k, .none, .none] })
      (s.heap.objs.size + 1) s.heap.objs.size k .none := by rw [← hz]; exact Heap.get?_push_size _ rfl
  refine codeAny_mono (codeAny_call_builtin F.called_enumerate.plain F.entry_enumerate_new (wpAny_of_eq hcn (enumNewAt l items n dc sl k t hk prog w A.in1
    (wants (fun obj s₁ => obj = .ref (s.heap.objs.size + 1) ∧ s₁.TypeIs obj "enumerate" ∧ Q obj s₁) E) s ⟨hl, rfl, ⟨_, he, rfl⟩, h _ he ⟨_, Heap.get?_push_of_some _ (Heap.get?_push_size _ rfl), rfl, rfl⟩ fun b o x => Heap.get?_push_of_some _ (Heap.get?_push_of_some _ x)⟩))) fun r s₁ hr => ?_
  rcases r with e | fl
  · exact hr
  cases fl
  case ret obj =>
    obtain ⟨_, hT, hq⟩ := hr
    have hli := F.slot_enumerate_init.lookup
    have hbi := F.slot_enumerate_init.bind obj
    repeat (any_goals (first | assumption | wp_step))
    refine codeAny_mono (codeAny_call_builtin F.slot_enumerate_init.plain F.entry_object_init (F.slot_enumerate_init.check _ _ _ _ _ _ _ _ hT (enumInitOk _ _ _)
      (enumInit obj (.ref l) (.int k t) prog w A.in1 (wants (fun r s₂ => r = .none ∧ Q obj s₂) E) s₁ ⟨hT, rfl, hq⟩))) fun r₂ s₂ hr₂ => ?_
    rcases r₂ with e | fl₂
    · exact hr₂
    cases fl₂
    case ret r =>
      obtain ⟨rfl, hq⟩ := hr₂
      repeat (any_goals (first | assumption | wp_step))
    all_goals exact hr₂.elim
  all_goals exact hr.elim
end
end PySem
/-! OWN RULES: the turns of enumerate(xs, start=n) -/
namespace PySem
section
variable {prog : Program} {w : World} {A : Around} {E : Value → Shared → Prop} {s : Shared}
theorem enumTurn {e c l : Addr} {i : Nat} {j : Int} {its : Array Value} {x o0 : Value} {Q : Value → Shared → Prop} (hE : IsEnum s.heap e c j o0) (hC : s.heap.IsListIter c l i) (hL : s.heap.IsList l its) (hX : its[i]? = some x) (ne : e ≠ c)
    (q : ∀ h', IsEnumOut h' e c (j + 1) x s.heap.objs.size → h'.IsListIter c l (i + 1) → h'.get? s.heap.objs.size = some { cls := .type "tuple", data := .seq #[.int j s.toks, x] } →
      (∀ b o, b ≠ e → b ≠ c → s.heap.get? b = some o → h'.get? b = some o) → Q (.ref s.heap.objs.size) { s with heap := h', toks := s.toks + 1 }) :
    wpAny (model prog w) A (Builtin.«enumerate.__next__» ⟨[.ref e], []⟩) (fun fin s' => ∃ v, fin = .done (.ret v) ∧ Q v s') E s := by
  obtain ⟨h0, g, d, tk, os⟩ := s
  refine wpAny_bind (m := field (.ref e) 2) (wpAny_field hE rfl (x := .ref c) rfl (wpAny_bind (wpAny_nextOf_list_item hC hL hX fun h1 c1 (b1 : Heap.SameBut c h0 h1) => ?_)))
  have e1 : IsEnum h1 e c j o0 := (b1.2 e ne).trans hE
  refine wpAny_bind (m := field (.ref e) 3) (wpAny_field e1 rfl (x := rawInt j) rfl ?_)
  refine wpAny_bind (m := field (.ref e) 4) (wpAny_field e1 rfl (x := .none) rfl ?_)
  refine wpAny_bind (m := mkInt j) (wpAny_mkInt ?_)
  refine wpAny_bind (m := setField (.ref e) 3 (rawInt (j + 1))) (wpAny_setField_rec e1 (by simp) fun h2 (e2 : IsEnum h2 e c (j + 1) o0) (b2 : Heap.SameBut e h1 h2) => ?_)
  refine wpAny_bind (m := setField (.ref e) 4 .none) (wpAny_setField_rec e2 (by simp) fun h3 (e3 : IsEnum h3 e c (j + 1) o0) (b3 : Heap.SameBut e h2 h3) => ?_)
  refine wpAny_bind (m := newTuple [.int j tk, x]) (wpAny_newTuple ?_)
  have zz : h3.objs.size = h0.objs.size := by rw [b3.1, b2.1, b1.1]
  have lt : e < h0.objs.size := Heap.lt_size hE
  have e4 : IsEnum (h3.push { cls := .type "tuple", data := .seq #[.int j tk, x] }) e c (j + 1) o0 := Heap.get?_push_of_some _ e3
  have t4 : (h3.push { cls := .type "tuple", data := .seq #[.int j tk, x] }).get? h0.objs.size = some { cls := .type "tuple", data := .seq #[.int j tk, x] } := by rw [← zz]; exact Heap.get?_push_size _ rfl
  have k4 : ∀ b o, b ≠ e → b ≠ c → h0.get? b = some o → (h3.push { cls := .type "tuple", data := .seq #[.int j tk, x] }).get? b = some o := fun b o n1 n2 q =>
    Heap.get?_push_of_some _ (b3.extBut b o n1 (b2.extBut b o n1 (b1.extBut b o n2 q)))
  have c4 : (h3.push { cls := .type "tuple", data := .seq #[.int j tk, x] }).IsListIter c l (i + 1) := by
    obtain ⟨o, ho, r⟩ := (c1.extBut b2.extBut (Ne.symm ne)).extBut b3.extBut (Ne.symm ne)
    exact ⟨o, Heap.get?_push_of_some _ ho, r⟩
  rw [show (⟨h3, g, d, tk + 1, os⟩ : Shared).heap.objs.size = h0.objs.size from zz]
  generalize h3.push { cls := .type "tuple", data := .seq #[.int j tk, x] } = h4 at e4 t4 k4 c4
  clear e3 b3 e2 b2 e1 b1 c1 zz
  refine wpAny_bind (m := Builtin.SmallTypes.ownedTupleIsFree (.ref e)) ?_
  unfold Builtin.SmallTypes.ownedTupleIsFree
  refine wpAny_bind (wpAny_field e4 rfl (x := .none) rfl (wpAny_pure ?_))
  simp only [if_true]
  refine wpAny_bind (wpAny_rule (wpAny_bind (wpAny_field e4 rfl (x := o0) rfl (wpAny_bind (wpAny_setField_rec e4 (by simp) fun h5 (e5 : IsEnum h5 e c (j + 1) x) (b5 : Heap.SameBut e h4 h5) => ?_)))))
  refine wpAny_bind (m := Builtin.SmallTypes.ownedTupleHandOut (.ref e) (.ref h0.objs.size)) ?_
  unfold Builtin.SmallTypes.ownedTupleHandOut
  refine wpAny_bind (wpAny_setField_rec e5 (by simp) fun h6 (e6 : IsEnumOut h6 e c (j + 1) x h0.objs.size) (b6 : Heap.SameBut e h5 h6) => ?_)
  refine wpAny_setField_rec e6 (by simp) fun h7 (e7 : IsEnumOut h7 e c (j + 1) x h0.objs.size) (b7 : Heap.SameBut e h6 h7) => ?_
  refine wpAny_bind (wpAny_letGo (wpAny_pure ⟨_, rfl, q h7 e7 (((c4.extBut b5.extBut (Ne.symm ne)).extBut b6.extBut (Ne.symm ne)).extBut b7.extBut (Ne.symm ne)) ?_ ?_⟩))
  · exact b7.extBut _ _ (Nat.ne_of_gt lt) (b6.extBut _ _ (Nat.ne_of_gt lt) (b5.extBut _ _ (Nat.ne_of_gt lt) t4))
  · exact fun b o n1 n2 q => b7.extBut b o n1 (b6.extBut b o n1 (b5.extBut b o n1 (k4 b o n1 n2 q)))
theorem enumGoes {e c l : Addr} {i : Nat} {j : Int} {its : Array Value} {x o0 : Value} {Q : Option Value → Shared → Prop} (hE : IsEnum s.heap e c j o0) (hC : s.heap.IsListIter c l i) (hL : s.heap.IsList l its) (hX : its[i]? = some x) (ne : e ≠ c)
    (q : ∀ h', IsEnumOut h' e c (j + 1) x s.heap.objs.size → h'.IsListIter c l (i + 1) → h'.get? s.heap.objs.size = some { cls := .type "tuple", data := .seq #[.int j s.toks, x] } →
      (∀ b o, b ≠ e → b ≠ c → s.heap.get? b = some o → h'.get? b = some o) → Q (some (.ref s.heap.objs.size)) { s with heap := h', toks := s.toks + 1 }) : wpAny (model prog w) A (pyNext (.ref e)) Q E s := by
  have ty : s.TypeIs (.ref e) "enumerate" := ⟨_, hE, rfl⟩
  unfold pyNext
  exact wpAny_bind (wpAny_attempt (wpAny_callSpecial?_slot (name := Str.ofString "__next__") ty F.slot_enumerate_next (wpAny_call_entry F.slot_enumerate_next ty F.entry_enumerate_next
      (enumTurn hE hC hL hX ne fun h' a b c k => wpAny_pure (q h' a b c k)) (F.args_enumerate_next_1 _))))
theorem enumEnds {e c l : Addr} {i : Nat} {j : Int} {its : Array Value} {o0 : Value} {Q : Option Value → Shared → Prop} (hh : A.handled = none) (hE : IsEnum s.heap e c j o0) (hC : s.heap.IsListIter c l i) (hL : s.heap.IsList l its) (hX : its[i]? = none)
    (q : ∀ h', Heap.ExtBut c s.heap h' → Q none { s with heap := h' }) : wpAny (model prog w) A (pyNext (.ref e)) Q E s := by
  have ty : s.TypeIs (.ref e) "enumerate" := ⟨_, hE, rfl⟩
  unfold pyNext
  refine wpAny_bind (wpAny_attempt (wpAny_callSpecial?_slot (name := Str.ofString "__next__") ty F.slot_enumerate_next (wpAny_call_entry F.slot_enumerate_next ty F.entry_enumerate_next ?_ (F.args_enumerate_next_1 _))))
  refine wpAny_bind (m := field (.ref e) 2) (wpAny_field hE rfl (x := .ref c) rfl (wpAny_bind (wpAny_nextOf_list_end hh hC hL hX fun h' x he' hx' => ?_)))
  obtain ⟨o, ho, hc⟩ := hx'
  exact wpAny_bind (wpAny_isInstance (T := "StopIteration") (b := true) ⟨o, ho, hc⟩ isSubtype_stop (wpAny_pure (q _ he')))
end
end PySem
namespace L2
open PySem PySem.Spec PyProof.Rows
theorem bt_enumerate : bootBuiltins "enumerate" = some (.type "enumerate") := by decide +kernel
/-- the pairs of a number and an item -/
def Ite (K : PySem.W.Frag) (l : Addr) (k : Int) : It :=
  ⟨fun i H => ∃ xs x, SqL K H l xs ∧ xs[i]? = some x,
   fun i H v H' => ∃ T x, (∀ xs, SqL K H l xs → xs[i]? = some x) ∧ H T = none ∧ v = .ref T ∧ H' = upd H T (.tup [.int (k + (i : Nat)), x]),
   fun i H => ∃ xs, SqL K H l xs ∧ xs.length ≤ i⟩
def EnSt (e c l : Addr) (k : Int) (i : Nat) (h : Heap) : Prop := (∃ o0, IsEnum h e c (k + (i : Nat)) o0) ∧ h.IsListIter c l i
theorem turn_enum {P : Program} {w : World} {K : PySem.W.Frag} {elts : List Expr} {kt : Nat} {pt : Pos} {e c l : Addr} {k : Int} (ne : e ≠ c) : Turn P w K (.Tuple elts kt pt) (Ite K l k) [e, c] e (EnSt e c l k) where
  mem := by simp
  obj := fun i h st b hb => by
    obtain ⟨⟨o0, h1⟩, h2⟩ := st
    simp only [List.mem_cons, List.not_mem_nil, or_false] at hb
    rcases hb with rfl | rfl
    · exact ⟨_, h1, fun v q => by cases q⟩
    · obtain ⟨o, e, c, d⟩ := h2
      exact ⟨o, e, fun v q => by rw [d] at q; cases q⟩
  keep := fun i h h' st k => by
    obtain ⟨⟨o0, h1⟩, h2⟩ := st
    exact ⟨⟨o0, k e (by simp) _ h1⟩, h2.at fun o q => k c (by simp) o q⟩
  item := by
    intro X hP hw hK hc i pins s σ H E I hf st hg
    subst hP hw hK
    obtain ⟨xs, x, q1, hx⟩ := hg
    obtain ⟨⟨o0, h1⟩, h2⟩ := st
    obtain ⟨its, rv, p, hsz⟩ := I.list q1
    obtain ⟨u, hu, ru⟩ := rv.get hx
    refine enumGoes h1 h2 p.isList (x := u) (by simpa using hu) ne fun h' a1 a2 a3 hk => ?_
    have hT0 : H s.heap.objs.size = none := I.hok.fresh (Nat.le_refl _)
    have J1 : Inv X pins σ (upd H s.heap.objs.size (.tup [.int (k + (i : Nat)), x])) { s with heap := s.heap.push { cls := .type "tuple", data := .seq #[.int (k + (i : Nat)) s.toks, u] }, toks := s.toks + 1 } :=
      I.laid (t' := s.toks + 1) (fun b o e => Heap.get?_push_of_some _ e) (Nat.le_refl _) (show ObjOk X.prog X.w _ _ _ (.tup [.int (k + (i : Nat)), x]) from ⟨(by show 2 ≤ sizeLine; decide), [.int (k + (i : Nat)) s.toks, u], .cons ⟨_, rfl⟩ (.cons ru .nil), IsTup.new _ _⟩)
    have lt : ∀ b ∈ [e, c], b ≠ s.heap.objs.size := fun b hb => by
      simp only [List.mem_cons, List.not_mem_nil, or_false] at hb
      rcases hb with rfl | rfl
      · exact Nat.ne_of_lt (Heap.lt_size h1)
      · obtain ⟨o, e, _⟩ := h2; exact Nat.ne_of_lt (Heap.lt_size e)
    have hf2 : ∀ b ∈ [e, c], FpOk X pins (upd H s.heap.objs.size (.tup [.int (k + (i : Nat)), x])) b := fun b hb => ⟨by rw [upd_ne (lt b hb)]; exact (hf b hb).1, (hf b hb).2⟩
    have J2 : Inv X pins σ (upd H s.heap.objs.size (.tup [.int (k + (i : Nat)), x])) { s with heap := h', toks := s.toks + 1 } := Inv.turnedL (s := { s with heap := s.heap.push { cls := .type "tuple", data := .seq #[.int (k + (i : Nat)) s.toks, u] }, toks := s.toks + 1 }) (t' := s.toks + 1) (h' := h') (ch := [e, c]) J1 (fun b o hb q => by
      rcases Heap.get?_push_cases q with ⟨rfl, rfl⟩ | q'
      · exact a3
      · simp only [List.mem_cons, List.not_mem_nil, or_false, not_or] at hb
        exact hk b o hb.1 hb.2 q') hf2
    refine ⟨.ref s.heap.objs.size, rfl, ?_⟩
    refine wpAny_letOwnedTupleGo_enum (s := { s with heap := h', toks := s.toks + 1 }) a1 fun h2' hz' hs' => ?_
    obtain ⟨g0, g1, g2, g3, g4, g5⟩ := hf2 e (by simp)
    refine ⟨.ref s.heap.objs.size, _, J2.turned (t' := s.toks + 1) (fun b o hb q => (hs'.2 b hb).trans q) g0 g1 g3 g4 g5, rfl, ⟨s.heap.objs.size, x, fun xs' e1 => ?_, hT0, rfl, rfl⟩, ?_, fun b hb => (hf2 b hb).1⟩
    · rw [I.list_inj e1 q1]
      exact hx
    · refine ⟨⟨u, ?_⟩, a2.extBut hs'.extBut (Ne.symm ne)⟩
      have ek : k + ((i + 1 : Nat) : Int) = k + (i : Nat) + 1 := by omega
      rw [ek]
      exact hz'
  done := by
    intro X hP hw hK hc i pins s σ H E I hf st hg
    subst hP hw hK
    obtain ⟨xs, q1, hend⟩ := hg
    obtain ⟨⟨o0, h1⟩, h2⟩ := st
    obtain ⟨its, rv, p, hsz⟩ := I.list q1
    have l1e := rv.length
    refine enumEnds (I.ok.hd hc) h1 h2 p.isList (by simp; omega) fun h' hk => ⟨rfl, I.turnedL (t' := s.toks) (ch := [e, c]) (fun b o hb q => ?_) hf⟩
    simp only [List.mem_cons, List.not_mem_nil, or_false, not_or] at hb
    exact hk b o hb.2 q
  self := fun _ _ _ _ _ st h => wpAny_pyIter_enum st.1.choose_spec h
end L2
/-! OWN RULES: for a, b in enumerate(xs, start=n) -/
namespace L2
open PySem PySem.Spec PyProof.Rows
theorem kwType {M : Model} {A : Around} {E : Value → Shared → Prop} {s : Shared} {pos : Pos} {T : String} {as : List (Bool × Sem Value)} {ks : List (Option Str × Sem Value)} {Q : Value → Shared → Prop} (n1 : as.any (·.1) = false) (n2 : ks.any (·.1.isNone) = false)
    (h : wpAny M A (evalArgs (.type T) true as ks) (fun a s₁ => wpAny M A (call (.type T) a.pos a.kw) Q E s₁) E s) : wpAny M A (callWith pos (.type T) [] as ks) Q E s := by
  unfold callWith
  refine wpAny_bind (wpAny_holding (thn h fun a s₁ h₁ => wpAny_bind (wpAny_standAt ?_)))
  simp only [n1, n2, Bool.or_false]
  exact wpAny_bind (wpAny_pure (wpAny_bind (thn h₁ fun r s₂ hr => wpAny_bind (wpAny_holding (wpAny_point (wpAny_pure hr))))))
section
variable {X : Cx} {K : PySem.W.Frag} {elts : List Expr} {kt : Nat} {pt : Pos}
def iEnum (K : PySem.W.Frag) (ta : TA) (tb : TE) : TI := fun σ H R => ta σ H fun vs H1 => tb σ H1 fun y H2 => ∃ (l : Addr) (xs : List V) (k : Int), vs = [.ref l] ∧ y = .int k ∧ SqL K H2 l xs ∧ (-(2 ^ 62) ≤ k ∧ k < 2 ^ 62) ∧ R (Ite K l k) H2
theorem pi_enum {a b : Expr} {ta : TA} {tb : TE} {p pos kp : Pos} (hg : Gl X "enumerate") (hm : X.mg "enumerate" = none) (ha : PA X [a] ta) (hb : PE X b tb) (hK : X.K = K := by rfl)
    (he : backTo pos (starEach [a] X.env) = (false, eval a X.env) :: backTo pos (starEach [] X.env) := by rfl) (n1 : (backTo pos (starEach [a] X.env)).any (·.1) = false := by rfl)
    (hall : (backToKw pos (keywordEach [⟨some "start", b, kp⟩] X.env)).all (·.1.isSome) = true := by rfl) (n2 : (backToKw pos (keywordEach [⟨some "start", b, kp⟩] X.env)).any (·.1.isNone) = false := by rfl)
    (hz : (backToKw pos (keywordEach [⟨some "start", b, kp⟩] X.env)).filterMap (·.1) = [("start" : Str)] := by rfl) :
    PI X (.Tuple elts kt pt) (.Call (.Name "enumerate" p) [a] [⟨some "start", b, kp⟩] pos) (iEnum K ta tb) := by
  subst hK
  intro pins s σ H R I h
  refine wpAny_Call_Name_kw (ld_blt I hg hm bt_enumerate (kwType n1 n2 ?_))
  have go := ha pos pins s σ H _ I h
  rw [he] at go ⊢
  refine evalArgs_kwB hall (thn go fun us s1 ⟨vs, H1, I1, r1, q1⟩ => kws_cons (thn (hb pins s1 σ H1 _ I1 q1) fun v2 s2 ⟨y, H2, I2, r2, q2⟩ => kws_nil ?_))
  obtain ⟨l, xs, k, rfl, rfl, hS, hk, q⟩ := q2
  obtain ⟨u, rfl, ru⟩ := vals1 r1
  cases ru
  obtain ⟨t, rfl⟩ := r2
  obtain ⟨its, rv, pl, hz2⟩ := I2.list hS
  rw [hz]
  have hf : Builtin.SmallTypes.fitsIndex k = true := by
    unfold Builtin.SmallTypes.fitsIndex
    simp only [Bool.and_eq_true, decide_eq_true_eq]
    omega
  refine enum_called pl.isList hf fun h' a1 a2 hkeep => wpAny_pyIter_enum a1 ?_
  have lt : s2.heap.objs.size ≠ s2.heap.objs.size + 1 := by omega
  refine ⟨s2.heap.objs.size + 1, [s2.heap.objs.size + 1, s2.heap.objs.size], _, _, H2, rfl, I2.kept (t' := s2.toks) hkeep, turn_enum (Ne.symm lt), ⟨⟨.none, ?_⟩, a2⟩, fun b hb2 => ?_, q⟩
  · have e0 : k + ((0 : Nat) : Int) = k := by omega
    rw [e0]; exact a1
  have hle : s2.heap.objs.size ≤ b := by
    simp only [List.mem_cons, List.not_mem_nil, or_false] at hb2
    rcases hb2 with rfl | rfl <;> omega
  exact I2.fpOk hle (I2.hok.fresh hle)
theorem for_enum {K : PySem.W.Frag} {l : Addr} {k : Int} {xs : List V} {g : TG} {tb : TS} {D : Ends} {σ : St} {H : Hp} (Pv : Nat → St → Hp → Prop) (h0 : Pv 0 σ H) (hl : ∀ i σ H, i ≤ xs.length → Pv i σ H → SqL K H l xs)
    (hs : ∀ i x σ H T, xs[i]? = some x → Pv i σ H → H T = none → g (.ref T) σ (upd H T (.tup [.int (k + (i : Nat)), x])) fun σ2 H2 => tb { D with nx := Pv (i + 1), ct := Pv (i + 1), bk := D.nx } σ2 H2) (hd : ∀ σ H, Pv xs.length σ H → D.nx σ H) :
    ∃ W : Nat → Nat → St → Hp → Prop, (∃ m, W 0 m σ H) ∧ ∀ i m σ H, W i m σ H →
      ((Ite K l k).stop i H ∧ D.nx σ H) ∨ ((Ite K l k).go i H ∧ ∃ N : St → Hp → Prop, (∀ σ' H', N σ' H' → ∃ m', m' < m ∧ W (i + 1) m' σ' H') ∧ ∀ x H', (Ite K l k).yld i H x H' → g x σ H' fun σ2 H2 => tb { D with nx := N, ct := N, bk := D.nx } σ2 H2) := by
  refine ⟨fun i m σ H => m = xs.length - i ∧ i ≤ xs.length ∧ Pv i σ H, ⟨_, rfl, Nat.zero_le _, h0⟩, ?_⟩
  rintro i m σ H ⟨rfl, hi, p⟩
  have hS := hl i σ H hi p
  by_cases hlt : i < xs.length
  · refine .inr ⟨⟨xs, xs[i], hS, List.getElem?_eq_getElem hlt⟩, Pv (i + 1), fun σ' H' p' => ⟨xs.length - (i + 1), by omega, rfl, hlt, p'⟩, fun x H' y => ?_⟩
    obtain ⟨T, x, hx, hT, rfl, rfl⟩ := y
    exact hs i x σ H T (hx xs hS) p hT
  · have e : i = xs.length := by omega
    subst e
    exact .inl ⟨⟨xs, hS, Nat.le_refl _⟩, hd σ H p⟩
end
end L2
/-! OWN RULES: xs[k::m] of a list: a list of some of its items -/
namespace L2
open PySem PySem.Spec PyProof.Rows
theorem Vals.pick {xs : List V} {us : List Value} (r : Vals xs us) : ∀ idx : List Nat, Vals (idx.filterMap (xs[·]?)) (idx.filterMap (us.toArray[·]?))
  | [] => .nil
  | i :: rest => by
    have ih := Vals.pick r rest
    have e : us.toArray[i]? = us[i]? := by simp
    by_cases hi : i < xs.length
    · obtain ⟨u, hu, ru⟩ := r.get (List.getElem?_eq_getElem hi)
      rw [List.filterMap_cons, List.filterMap_cons, List.getElem?_eq_getElem hi]
      simp only [e, hu]
      exact .cons ru ih
    · have h1 : xs[i]? = none := List.getElem?_eq_none (Nat.le_of_not_lt hi)
      have h2 := r.none_of h1
      rw [List.filterMap_cons, List.filterMap_cons, h1]
      simp only [e, h2]
      exact ih
section
variable {X : Cx} {K : PySem.W.Frag}
def tStep (K : PySem.W.Frag) (te tl ts : TE) : TE := fun σ H Q => te σ H fun x H1 => tl σ H1 fun y H2 => ts σ H2 fun z H3 => ∃ (k m : Int) (a : Addr) (xs : List V), y = .int k ∧ z = .int m ∧ m ≠ 0 ∧ x = .ref a ∧ SqL K H3 a xs ∧
  ∀ p zs, (∀ v ∈ zs, v ∈ xs) → zs.length ≤ xs.length → H3 p = none → Q (.ref p) (upd H3 p (.lst zs))
theorem pe_step {e lo st : Expr} {te tl ts : TE} {p2 pos : Pos} (he : PE X e te) (hlo : PE X lo tl) (hst : PE X st ts) (hK : X.K = K := by rfl) : PE X (.Subscript e (.Slice (some lo) none (some st) p2) pos) (tStep K te tl ts) := by
  subst hK
  intro pins s σ H Q I h
  refine Subscript_ (thn (he pins s σ H _ I h) fun v s1 ⟨x, H1, I1, r1, q1⟩ => wpAny_Slice ?_)
  rw [evalPart_some]
  refine thn (hlo pins s1 σ H1 _ I1 q1) fun w2 s2 ⟨y, H2, I2, ry, q2⟩ => wpAny_pure ?_
  rw [evalPart_some]
  refine thn (hst pins s2 σ H2 _ I2 q2) fun w3 s3 ⟨z, H3, I3, rz, q3⟩ => ?_
  obtain ⟨k, m, a, xs, rfl, rfl, hm, rfl, hS, q⟩ := q3
  obtain ⟨tk, rfl⟩ := ry
  obtain ⟨tm, rfl⟩ := rz
  cases r1
  have I4 : Inv X pins σ H3 { s3 with heap := s3.heap.push { cls := .type "slice", data := .fields #[.int k tk, .none, .int m tm] } } := I3.kept (t' := s3.toks) fun b ob q => Heap.get?_push_of_some _ q
  obtain ⟨its, r, pl, hz⟩ := I4.list hS
  have hlen := r.length
  show wpAny (model X.prog X.w) X.A (subscriptTail e (.Slice (some lo) none (some st) p2) (.ref a) (.ref s3.heap.objs.size)) (EP X pins σ Q) X.xe { s3 with heap := s3.heap.push { cls := .type "slice", data := .fields #[.int k tk, .none, .int m tm] } }
  refine tail_any (ops := [.ref a, .ref s3.heap.objs.size]) pl.isList.typeIs slot_list_getitem.lookup ?_ (by with_unfolding_all rfl)
  refine wpAny_getItem_list_slice (st := some m) pl.isList (Heap.IsSliceOf.new ..) (.int k tk) .none (.int m tm) (by simpa using hm) ?_ (by rw [List.size_toArray] <;> omega)
  have hp := slicePick_size_le its.toArray (some k) none (some m)
  unfold slicePick at hp ⊢
  generalize sliceRange (sliceBounds (some k) none (some m) its.toArray.size).1 (sliceBounds (some k) none (some m) its.toArray.size).2.1 (sliceBounds (some k) none (some m) its.toArray.size).2.2 = idx at hp ⊢
  have hr := r.pick idx
  have hl2 := hr.length
  rw [List.size_toArray, List.size_toArray] at hp
  have hle : (idx.filterMap (xs[·]?)).length ≤ xs.length := by omega
  refine ⟨.ref _, _, I4.laid (t' := s3.toks) (o := .lst (idx.filterMap (xs[·]?))) (fun b ob q => Heap.get?_push_of_some _ q) (Nat.le_refl _) ⟨Nat.le_trans hle hz, _, 0, hr, Heap.get?_push_size _ rfl⟩, rfl, q _ _ (fun v hv => ?_) hle (I4.hok.fresh (Nat.le_refl _))⟩
  obtain ⟨i, _, hi⟩ := List.mem_filterMap.mp hv
  exact List.mem_of_getElem? hi
end
end L2
/-! tuple(zip(a, b)): a a tuple, b a tuple or a list -/
namespace PySem
open Sem (wp)
namespace ZT
def IsIt (t : Bool) (h : Heap) (i l : Addr) (k : Nat) : Prop := if t then h.IsTupleIter i l k else h.IsListIter i l k
def IsSq (t : Bool) (h : Heap) (l : Addr) (xs : Array Value) : Prop := if t then h.IsTuple l xs else h.IsList l xs
theorem IsIt.extBut {t : Bool} {h h' : Heap} {i b l : Addr} {k : Nat} (x : IsIt t h i l k) (hs : Heap.ExtBut b h h') (hb : i ≠ b) : IsIt t h' i l k := by
  cases t
  · exact Heap.IsListIter.extBut (show h.IsListIter i l k from x) hs hb
  · exact Heap.IsTupleIter.extBut (show h.IsTupleIter i l k from x) hs hb
theorem IsIt.at {t : Bool} {h h' : Heap} {i l : Addr} {k : Nat} (x : IsIt t h i l k) (e : ∀ o, h.get? i = some o → h'.get? i = some o) : IsIt t h' i l k := by
  cases t
  · obtain ⟨o, ho, r⟩ := (show h.IsListIter i l k from x)
    exact ⟨o, e o ho, r⟩
  · obtain ⟨o, ho, r⟩ := (show h.IsTupleIter i l k from x)
    exact ⟨o, e o ho, r⟩
theorem IsIt.live {t : Bool} {h : Heap} {i l : Addr} {k : Nat} (x : IsIt t h i l k) : ∃ o, h.get? i = some o := by
  cases t
  · obtain ⟨o, ho, r⟩ := (show h.IsListIter i l k from x)
    exact ⟨o, ho⟩
  · obtain ⟨o, ho, r⟩ := (show h.IsTupleIter i l k from x)
    exact ⟨o, ho⟩
theorem IsSq.at {t : Bool} {h h' : Heap} {l : Addr} {xs : Array Value} (x : IsSq t h l xs) (e : ∀ o, h.get? l = some o → h'.get? l = some o) : IsSq t h' l xs := by
  cases t
  · obtain ⟨o, ho, r⟩ := (show h.IsList l xs from x)
    exact ⟨o, e o ho, r⟩
  · obtain ⟨o, ho, r⟩ := (show h.IsTuple l xs from x)
    exact ⟨o, e o ho, r⟩
theorem IsSq.extBut {t : Bool} {h h' : Heap} {l b : Addr} {xs : Array Value} (x : IsSq t h l xs) (hs : Heap.ExtBut b h h') (hb : l ≠ b) : IsSq t h' l xs := x.at fun o e => hs l o hb e
section
variable {prog : Program} {w : World} {A : Around} {E : Value → Shared → Prop} {s : Shared}
theorem nextOf_tuple_item {it t : Addr} {i : Nat} {items} {x : Value} {Q : Value → Shared → Prop} (hit : s.heap.IsTupleIter it t i)
    (ht : s.heap.IsTuple t items) (hx : items[i]? = some x)
    (hQ : ∀ h', h'.IsTupleIter it t (i + 1) → Heap.SameBut it s.heap h' → Q x { s with heap := h' }) :
    wpAny (model prog w) A (Builtin.SmallTypes.nextOf (.ref it)) Q E s := by
  obtain ⟨o, ho, hc, hd⟩ := id hit
  obtain ⟨ol, hol, _, nl, hdl⟩ := ht
  unfold Builtin.SmallTypes.nextOf
  refine wpAny_bind (wpAny_callSpecial?_slot (name := Str.ofString "__next__") hit.typeIs F.slot_tuple_iterator_next
    (wpAny_call_entry F.slot_tuple_iterator_next hit.typeIs F.entry_tuple_iterator_next ?_ (F.args_tuple_iterator_next_1 _)))
  show wpAny _ _ (field (.ref it) 0 >>= _) _ _ s
  refine wpAny_bind (wpAny_field ho hd (x := .ref t) rfl ?_)
  show wpAny _ _ (if (Value.ref t == Value.none) = true then _ else _) _ _ s
  rw [if_neg (show ¬ ((Value.ref t == Value.none) = true) from Bool.false_ne_true)]
  show wpAny _ _ (field (.ref it) 1 >>= _) _ _ s
  refine wpAny_bind (wpAny_field ho hd (x := .int i 0) rfl ?_)
  show wpAny _ _ (seqItems? (.ref t) >>= _) _ _ s
  refine wpAny_bind (wpAny_seqItems hol hdl ?_)
  simp only [Int.toNat_natCast, hx]
  refine wpAny_bind (wpAny_setField ho hd (by simp) (wpAny_pure ⟨x, rfl, wpAny_pure (hQ _ ?_ (Heap.SameBut.update ..))⟩))
  exact ⟨_, Heap.get?_update_self _ ho (Obj.isFreed_of_fields (Obj.data_mapFields hd _)), (Obj.cls_mapFields ..).trans hc, by
    rw [Obj.data_mapFields hd]; simp [rawInt]⟩
theorem nextOf_tuple_end {it t : Addr} {i : Nat} {items} {Q : Value → Shared → Prop} (hh : A.handled = none)
    (hit : s.heap.IsTupleIter it t i) (ht : s.heap.IsTuple t items) (hx : items[i]? = none)
    (hE : ∀ h' e, Heap.ExtBut it s.heap h' → (∃ o, h'.get? e = some o ∧ o.cls = .type "StopIteration") → E (.ref e) { s with heap := h' }) :
    wpAny (model prog w) A (Builtin.SmallTypes.nextOf (.ref it)) Q E s := by
  obtain ⟨o, ho, hc, hd⟩ := id hit
  obtain ⟨ol, hol, _, nl, hdl⟩ := ht
  unfold Builtin.SmallTypes.nextOf
  refine wpAny_bind (wpAny_callSpecial?_slot (name := Str.ofString "__next__") hit.typeIs F.slot_tuple_iterator_next
    (wpAny_call_entry F.slot_tuple_iterator_next hit.typeIs F.entry_tuple_iterator_next ?_ (F.args_tuple_iterator_next_1 _)))
  show wpAny _ _ (field (.ref it) 0 >>= _) _ _ s
  refine wpAny_bind (wpAny_field ho hd (x := .ref t) rfl ?_)
  show wpAny _ _ (if (Value.ref t == Value.none) = true then _ else _) _ _ s
  rw [if_neg (show ¬ ((Value.ref t == Value.none) = true) from Bool.false_ne_true)]
  show wpAny _ _ (field (.ref it) 1 >>= _) _ _ s
  refine wpAny_bind (wpAny_field ho hd (x := .int i 0) rfl ?_)
  show wpAny _ _ (seqItems? (.ref t) >>= _) _ _ s
  refine wpAny_bind (wpAny_seqItems hol hdl ?_)
  simp only [Int.toNat_natCast, hx]
  refine wpAny_bind (wpAny_rule (wpAny_bind (wpAny_setField ho hd (by simp) ?_)))
  show wpAny _ _ (newExc (.type "StopIteration") [] >>= _) _ _ _
  refine wpAny_bind ?_
  simp only [newExc, newTuple]
  refine wpAny_bind (wpAny_newObj_type ?_ (by size_fits))
  refine wpAny_bind (m := firstArgMember _ _) (wpAny_of_eq (a := Value.none) (by first | rfl | (simp only [firstArgMember]; rfl)) ?_)
  refine wpAny_newObj_type ?_ (by size_fits)
  simp only [raiseNew]
  refine wpAny_bind (wpAny_handled ?_)
  first | rw [show A.in1.handled = none from hh] | rw [hh]
  refine wpAny_bind (wpAny_pure (wpAny_throw ?_))
  exact hE _ _ (((Heap.SameBut.update ..).extBut.push _).push _) ⟨_, Heap.get?_push_size _ rfl, rfl⟩
theorem next_item {t : Bool} {it l : Addr} {i : Nat} {items} {x : Value} {Q : Value → Shared → Prop} (hit : IsIt t s.heap it l i)
    (ht : IsSq t s.heap l items) (hx : items[i]? = some x)
    (hQ : ∀ h', IsIt t h' it l (i + 1) → Heap.SameBut it s.heap h' → Q x { s with heap := h' }) :
    wpAny (model prog w) A (Builtin.SmallTypes.nextOf (.ref it)) Q E s := by
  cases t
  · exact wpAny_nextOf_list_item hit ht hx hQ
  · exact nextOf_tuple_item hit ht hx hQ
theorem next_end {t : Bool} {it l : Addr} {i : Nat} {items} {Q : Value → Shared → Prop} (hh : A.handled = none) (hit : IsIt t s.heap it l i)
    (ht : IsSq t s.heap l items) (hx : items[i]? = none)
    (hE : ∀ h' e, Heap.ExtBut it s.heap h' → (∃ o, h'.get? e = some o ∧ o.cls = .type "StopIteration") → E (.ref e) { s with heap := h' }) :
    wpAny (model prog w) A (Builtin.SmallTypes.nextOf (.ref it)) Q E s := by
  cases t
  · exact wpAny_nextOf_list_end hh hit ht hx hE
  · exact nextOf_tuple_end hh hit ht hx hE
end
end ZT
end PySem
namespace PySem
open Sem (wp)
namespace ZT
abbrev IsZ (h : Heap) (z TI TO : Addr) (f0 f1 : Value) : Prop :=
  h.get? z = some { cls := .type "zip", dict := none, data := .fields #[f0, f1, .bool false, .ref TI, .ref TO], slots := #[] }
section
variable {prog : Program} {w : World} {A : Around} {E : Value → Shared → Prop} {s : Shared}
theorem wpAny_alive {M : Model} {a : Addr} {Q : Option Obj → Shared → Prop} (h : Q (s.heap.get? a) s) : wpAny M A (loadIfAlive a) Q E s := fun Γ p _ => by
  unfold loadIfAlive
  rw [Sem.wp_loadIfAlive]
  rw [Sem.wp]
  exact h
theorem not_free {z TI TO T : Addr} {b : Bool} {Q : Bool → Shared → Prop} (hz : IsZ s.heap z TI TO (rawInt T) (.bool b)) (hT : ∃ o, s.heap.get? T = some o)
    (hQ : ∀ h', IsZ h' z TI TO (rawInt T) (.bool true) → Heap.SameBut z s.heap h' → Q false { s with heap := h' }) :
    wpAny (model prog w) A (Builtin.SmallTypes.ownedTupleIsFree (.ref z)) Q E s := by
  obtain ⟨o, ho⟩ := hT
  unfold Builtin.SmallTypes.ownedTupleIsFree
  refine wpAny_bind (wpAny_field hz rfl (x := rawInt T) rfl ?_)
  show wpAny _ _ (loadIfAlive T >>= _) _ _ _
  refine wpAny_bind (wpAny_alive ?_)
  rw [ho]
  simp only [Option.isNone_some, Bool.false_eq_true, if_false]
  refine wpAny_bind (wpAny_field hz rfl (x := .bool b) rfl ?_)
  cases b
  · rw [if_pos (by decide)]
    exact wpAny_bind (wpAny_setField_rec hz (by simp) fun h' hz' hs' => wpAny_pure (hQ h' hz' hs'))
  · rw [if_neg (by decide)]
    exact wpAny_pure (hQ s.heap hz ⟨rfl, fun _ _ => rfl⟩)
/-- the tuple that was handed out last is held still: a new one is made -/
theorem held_item {t1 t2 : Bool} {z TI TO i1 i2 l1 l2 T : Addr} {k1 k2 : Nat} {xs ys : Array Value} {x y : Value} {b : Bool} {Q : Value → Shared → Prop} (D : ZipApart z TI TO i1 i2 l1 l2)
    (hz : IsZ s.heap z TI TO (rawInt T) (.bool b)) (hT : ∃ o, s.heap.get? T = some o) (hTI : IsPair s.heap TI (.ref i1) (.ref i2))
    (h1 : IsIt t1 s.heap i1 l1 k1) (h2 : IsIt t2 s.heap i2 l2 k2) (hl1 : IsSq t1 s.heap l1 xs) (hl2 : IsSq t2 s.heap l2 ys) (hx : xs[k1]? = some x) (hy : ys[k2]? = some y)
    (hQ : ∀ h', IsZ h' z TI TO (rawInt T) (.bool true) → IsIt t1 h' i1 l1 (k1 + 1) → IsIt t2 h' i2 l2 (k2 + 1) → IsPair h' s.heap.objs.size x y → h'.objs.size = s.heap.objs.size + 1 →
      (∀ c o, c ≠ z → c ≠ i1 → c ≠ i2 → s.heap.get? c = some o → h'.get? c = some o) → Q (.ref s.heap.objs.size) { s with heap := h' }) :
    wpAny (model prog w) A (Builtin.«zip.__next__» ⟨[.ref z], []⟩) (fun fin s' => ∃ v, fin = .done (.ret v) ∧ Q v s') E s := by
  show wpAny _ _ (field (.ref z) 2 >>= _) _ _ _
  refine wpAny_bind (wpAny_field hz rfl (x := .bool false) rfl ?_)
  show wpAny _ _ (field (.ref z) 3 >>= _) _ _ _
  refine wpAny_bind (wpAny_field hz rfl (x := .ref TI) rfl ?_)
  refine wpAny_bind (wpAny_seqItems hTI rfl ?_)
  show wpAny _ _ (Builtin.SmallTypes.ownedTupleIsFree (.ref z) >>= _) _ _ _
  refine wpAny_bind (not_free hz hT fun h₁ hz₁ hs₁ => ?_)
  simp only [Bool.false_eq_true, if_false]
  refine wpAny_bind ?_
  rw [← Array.forIn_toList]
  simp only [List.forIn_cons, List.forIn_nil]
  refine wpAny_bind (wpAny_bind (wpAny_holding ?_))
  show wpAny _ _ (Builtin.SmallTypes.nextOf (.ref i1) >>= _) _ _ _
  refine wpAny_bind (next_item (h1.extBut hs₁.extBut D.i1z) (hl1.extBut hs₁.extBut D.l1z) hx fun h₂ h1₂ hs₂ => wpAny_pure (wpAny_pure ?_))
  refine wpAny_bind (wpAny_bind (wpAny_holding ?_))
  show wpAny _ _ (Builtin.SmallTypes.nextOf (.ref i2) >>= _) _ _ _
  refine wpAny_bind (next_item ((h2.extBut hs₁.extBut D.i2z).extBut hs₂.extBut D.i12.symm) ((hl2.extBut hs₁.extBut D.l2z).extBut hs₂.extBut D.l2i1) hy fun h₃ h2₃ hs₃ => wpAny_pure (wpAny_pure (wpAny_pure ?_)))
  refine wpAny_bind (wpAny_newTuple (wpAny_pure ⟨_, rfl, ?_⟩) (by show 2 ≤ sizeLine; decide))
  have hsz : h₃.objs.size = s.heap.objs.size := by rw [hs₃.1, hs₂.1, hs₁.1]
  have hz₃ : IsZ h₃ z TI TO (rawInt T) (.bool true) := hs₃.extBut _ _ D.i2z.symm (hs₂.extBut _ _ D.i1z.symm hz₁)
  have hk : ∀ c o, c ≠ z → c ≠ i1 → c ≠ i2 → s.heap.get? c = some o → h₃.get? c = some o := fun c o c1 c2 c3 e => hs₃.extBut _ _ c3 (hs₂.extBut _ _ c2 (hs₁.extBut _ _ c1 e))
  show Q (.ref h₃.objs.size) _
  have hp : IsPair (h₃.push { cls := .type "tuple", data := .seq #[x, y] }) h₃.objs.size x y := Heap.get?_push_size _ rfl
  rw [hsz] at hp ⊢
  exact hQ _ (Heap.get?_push_of_some _ hz₃) ((h1₂.extBut hs₃.extBut D.i12).at fun o e => Heap.get?_push_of_some _ e) (h2₃.at fun o e => Heap.get?_push_of_some _ e) hp (by rw [Heap.size_push, hsz]) fun c o c1 c2 c3 e => Heap.get?_push_of_some _ (hk c o c1 c2 c3 e)
theorem held_end {t1 t2 : Bool} {z TI TO i1 i2 l1 l2 T : Addr} {k1 k2 : Nat} {xs ys : Array Value} {b : Bool} {Q : Fin → Shared → Prop} (hh : A.handled = none) (D : ZipApart z TI TO i1 i2 l1 l2)
    (hz : IsZ s.heap z TI TO (rawInt T) (.bool b)) (hT : ∃ o, s.heap.get? T = some o) (hTI : IsPair s.heap TI (.ref i1) (.ref i2))
    (h1 : IsIt t1 s.heap i1 l1 k1) (h2 : IsIt t2 s.heap i2 l2 k2) (hl1 : IsSq t1 s.heap l1 xs) (hl2 : IsSq t2 s.heap l2 ys) (hend : xs[k1]? = none ∨ ys[k2]? = none)
    (hE : ∀ h' e, (∀ c o, c ≠ z → c ≠ i1 → c ≠ i2 → s.heap.get? c = some o → h'.get? c = some o) → (∃ o, h'.get? e = some o ∧ o.cls = .type "StopIteration") → E (.ref e) { s with heap := h' }) :
    wpAny (model prog w) A (Builtin.«zip.__next__» ⟨[.ref z], []⟩) Q E s := by
  show wpAny _ _ (field (.ref z) 2 >>= _) _ _ _
  refine wpAny_bind (wpAny_field hz rfl (x := .bool false) rfl ?_)
  show wpAny _ _ (field (.ref z) 3 >>= _) _ _ _
  refine wpAny_bind (wpAny_field hz rfl (x := .ref TI) rfl ?_)
  refine wpAny_bind (wpAny_seqItems hTI rfl ?_)
  show wpAny _ _ (Builtin.SmallTypes.ownedTupleIsFree (.ref z) >>= _) _ _ _
  refine wpAny_bind (not_free hz hT fun h₁ hz₁ hs₁ => ?_)
  simp only [Bool.false_eq_true, if_false]
  refine wpAny_bind ?_
  rw [← Array.forIn_toList]
  simp only [List.forIn_cons, List.forIn_nil]
  refine wpAny_bind (wpAny_bind (wpAny_holding ?_))
  show wpAny _ _ (Builtin.SmallTypes.nextOf (.ref i1) >>= _) _ _ _
  cases hx : xs[k1]? with
  | none => exact wpAny_bind (next_end hh (h1.extBut hs₁.extBut D.i1z) (hl1.extBut hs₁.extBut D.l1z) hx fun h₂ e hs₂ he => hE h₂ e (fun c o c1 c2 _ x => hs₂ _ _ c2 (hs₁.extBut _ _ c1 x)) he)
  | some x =>
    have hy : ys[k2]? = none := by rcases hend with h | h; rw [hx] at h; cases h; exact h
    refine wpAny_bind (next_item (h1.extBut hs₁.extBut D.i1z) (hl1.extBut hs₁.extBut D.l1z) hx fun h₂ h1₂ hs₂ => wpAny_pure (wpAny_pure ?_))
    refine wpAny_bind (wpAny_bind (wpAny_holding ?_))
    show wpAny _ _ (Builtin.SmallTypes.nextOf (.ref i2) >>= _) _ _ _
    exact wpAny_bind (next_end hh ((h2.extBut hs₁.extBut D.i2z).extBut hs₂.extBut D.i12.symm) ((hl2.extBut hs₁.extBut D.l2z).extBut hs₂.extBut D.l2i1) hy fun h₃ e hs₃ he => hE h₃ e (fun c o c1 c2 c3 x => hs₃ _ _ c3 (hs₂.extBut _ _ c2 (hs₁.extBut _ _ c1 x))) he)
theorem fresh_item {t1 t2 : Bool} {z TI TO i1 i2 l1 l2 : Addr} {k1 k2 : Nat} {xs ys : Array Value} {x y a b : Value} {Q : Value → Shared → Prop} (D : ZipApart z TI TO i1 i2 l1 l2)
    (hz : IsZ s.heap z TI TO .none (.bool false)) (hTI : IsPair s.heap TI (.ref i1) (.ref i2)) (hTO : IsPair s.heap TO a b)
    (h1 : IsIt t1 s.heap i1 l1 k1) (h2 : IsIt t2 s.heap i2 l2 k2) (hl1 : IsSq t1 s.heap l1 xs) (hl2 : IsSq t2 s.heap l2 ys) (hx : xs[k1]? = some x) (hy : ys[k2]? = some y)
    (hQ : ∀ h' b, IsZ h' z TI TO (rawInt s.heap.objs.size) (.bool b) → IsIt t1 h' i1 l1 (k1 + 1) → IsIt t2 h' i2 l2 (k2 + 1) → IsPair h' s.heap.objs.size x y → h'.objs.size = s.heap.objs.size + 1 →
      (∀ c o, c ≠ z → c ≠ TO → c ≠ i1 → c ≠ i2 → s.heap.get? c = some o → h'.get? c = some o) → IsPair h' TO x y → Q (.ref s.heap.objs.size) { s with heap := h' }) :
    wpAny (model prog w) A (Builtin.«zip.__next__» ⟨[.ref z], []⟩) (fun fin s' => ∃ v, fin = .done (.ret v) ∧ Q v s') E s := by
  show wpAny _ _ (field (.ref z) 2 >>= _) _ _ _
  refine wpAny_bind (wpAny_field hz rfl (x := .bool false) rfl ?_)
  show wpAny _ _ (field (.ref z) 3 >>= _) _ _ _
  refine wpAny_bind (wpAny_field hz rfl (x := .ref TI) rfl ?_)
  refine wpAny_bind (wpAny_seqItems hTI rfl ?_)
  show wpAny _ _ (Builtin.SmallTypes.ownedTupleIsFree (.ref z) >>= _) _ _ _
  refine wpAny_bind ?_
  unfold Builtin.SmallTypes.ownedTupleIsFree
  refine wpAny_bind (wpAny_field hz rfl (x := .none) rfl (wpAny_pure ?_))
  simp only [if_true]
  refine wpAny_bind (wpAny_rule ?_)
  refine wpAny_bind (wpAny_field hz rfl (x := .ref TO) rfl ?_)
  refine wpAny_bind (wpAny_setField_rec hz (by simp) fun g₁ z₁ q₁ => ?_)
  replace z₁ : IsZ g₁ z TI TO .ellipsis (.bool false) := z₁
  have p₁ : IsPair g₁ TO a b := q₁.extBut _ _ D.TOz hTO
  refine wpAny_bind ?_
  simp only [List.zipIdx_cons, List.zipIdx_nil, List.forIn_cons, List.forIn_nil]
  -- the first one
  refine wpAny_bind (wpAny_bind (wpAny_onRaise ?_))
  show wpAny _ _ (Builtin.SmallTypes.nextOf (.ref i1) >>= _) _ _ _
  refine wpAny_bind (next_item (h1.extBut q₁.extBut D.i1z) (hl1.extBut q₁.extBut D.l1z) hx fun g₂ it₂ q₂ => wpAny_pure ?_)
  have p₂ : IsPair g₂ TO a b := q₂.extBut _ _ D.TOi1 p₁
  refine wpAny_bind (wpAny_seqItems p₂ rfl (wpAny_bind (wpAny_updateSeq_pair p₂ fun g₃ p₃ q₃ => wpAny_bind (wpAny_letGo (wpAny_pure ?_)))))
  replace p₃ : IsPair g₃ TO x b := p₃
  have k₃ : ∀ {c o}, c ≠ z → c ≠ i1 → c ≠ TO → s.heap.get? c = some o → g₃.get? c = some o := fun c1 c2 c3 e => q₃.extBut _ _ c3 (q₂.extBut _ _ c2 (q₁.extBut _ _ c1 e))
  -- the second one
  refine wpAny_bind (wpAny_bind (wpAny_onRaise ?_))
  show wpAny _ _ (Builtin.SmallTypes.nextOf (.ref i2) >>= _) _ _ _
  refine wpAny_bind (next_item (h2.at fun o e => k₃ D.i2z D.i12.symm D.TOi2.symm e) (hl2.at fun o e => k₃ D.l2z D.l2i1 D.l2TO e) hy fun g₄ it₄ q₄ => wpAny_pure ?_)
  have p₄ : IsPair g₄ TO x b := q₄.extBut _ _ D.TOi2 p₃
  refine wpAny_bind (wpAny_seqItems p₄ rfl (wpAny_bind (wpAny_updateSeq_pair p₄ fun g₅ p₅ q₅ => wpAny_bind (wpAny_letGo (wpAny_pure (wpAny_pure ?_))))))
  replace p₅ : IsPair g₅ TO x y := p₅
  -- what is handed out
  refine wpAny_bind (wpAny_seqItems p₅ rfl (wpAny_bind (wpAny_newTuple ?_)))
  have sz : g₅.objs.size = s.heap.objs.size := by rw [q₅.1, q₄.1, q₃.1, q₂.1, q₁.1]
  have z₅ : IsZ g₅ z TI TO .ellipsis (.bool false) := q₅.extBut _ _ D.TOz.symm (q₄.extBut _ _ D.i2z.symm (q₃.extBut _ _ D.TOz.symm (q₂.extBut _ _ D.i1z.symm z₁)))
  have k₅ : ∀ c o, c ≠ z → c ≠ TO → c ≠ i1 → c ≠ i2 → s.heap.get? c = some o → g₅.get? c = some o := fun c o c1 c2 c3 c4 e => q₅.extBut _ _ c2 (q₄.extBut _ _ c4 (k₃ c1 c3 c2 e))
  have it1 : IsIt t1 g₅ i1 l1 (k1 + 1) := it₂.at fun o e => q₅.extBut _ _ D.TOi1.symm (q₄.extBut _ _ D.i12 (q₃.extBut _ _ D.TOi1.symm e))
  have it2 : IsIt t2 g₅ i2 l2 (k2 + 1) := it₄.at fun o e => q₅.extBut _ _ D.TOi2.symm e
  have zlt : z < g₅.objs.size := Heap.lt_size z₅
  show wpAny _ _ (Builtin.SmallTypes.ownedTupleHandOut (.ref z) (.ref g₅.objs.size) >>= _) _ _ _
  refine wpAny_bind ?_
  unfold Builtin.SmallTypes.ownedTupleHandOut
  refine wpAny_bind (wpAny_setField_rec (Heap.get?_push_of_some _ z₅) (by simp) fun g₇ z₇ q₇ => ?_)
  replace z₇ : IsZ g₇ z TI TO (rawInt g₅.objs.size) (.bool false) := z₇
  refine wpAny_setField_rec z₇ (by simp) fun g₈ z₈ q₈ => wpAny_pure ⟨_, rfl, ?_⟩
  replace z₈ : IsZ g₈ z TI TO (rawInt g₅.objs.size) (.bool false) := z₈
  have up : ∀ c o, c ≠ z → g₅.get? c = some o → g₈.get? c = some o := fun c o c1 e => q₈.extBut _ _ c1 (q₇.extBut _ _ c1 (Heap.get?_push_of_some _ e))
  have pT : IsPair g₈ g₅.objs.size x y := q₈.extBut _ _ (Nat.ne_of_gt zlt) (q₇.extBut _ _ (Nat.ne_of_gt zlt) (Heap.get?_push_size _ rfl))
  have s8 : g₈.objs.size = g₅.objs.size + 1 := by rw [q₈.1, q₇.1, Heap.size_push]
  show Q (.ref g₅.objs.size) _
  rw [sz] at z₈ pT s8 ⊢
  exact hQ g₈ false z₈ (it1.at fun o e => up _ o D.i1z e) (it2.at fun o e => up _ o D.i2z e) pT s8 (fun c o c1 c2 c3 c4 e => up c o c1 (k₅ c o c1 c2 c3 c4 e)) (up _ _ D.TOz p₅)
end
end ZT
end PySem
namespace PySem
open Sem (wp)
open PyProof.Rows
namespace ZT
section
variable {prog : Program} {w : World} {A : Around} {E : Value → Shared → Prop} {s : Shared}
theorem pyNext_held {t1 t2 : Bool} {z TI TO i1 i2 l1 l2 T : Addr} {k1 k2 : Nat} {xs ys : Array Value} {x y : Value} {b : Bool} {Q : Option Value → Shared → Prop} (D : ZipApart z TI TO i1 i2 l1 l2)
    (hz : IsZ s.heap z TI TO (rawInt T) (.bool b)) (hT : ∃ o, s.heap.get? T = some o) (hTI : IsPair s.heap TI (.ref i1) (.ref i2))
    (h1 : IsIt t1 s.heap i1 l1 k1) (h2 : IsIt t2 s.heap i2 l2 k2) (hl1 : IsSq t1 s.heap l1 xs) (hl2 : IsSq t2 s.heap l2 ys) (hx : xs[k1]? = some x) (hy : ys[k2]? = some y)
    (hQ : ∀ h', IsZ h' z TI TO (rawInt T) (.bool true) → IsIt t1 h' i1 l1 (k1 + 1) → IsIt t2 h' i2 l2 (k2 + 1) → IsPair h' s.heap.objs.size x y → h'.objs.size = s.heap.objs.size + 1 →
      (∀ c o, c ≠ z → c ≠ i1 → c ≠ i2 → s.heap.get? c = some o → h'.get? c = some o) → Q (some (.ref s.heap.objs.size)) { s with heap := h' }) :
    wpAny (model prog w) A (pyNext (.ref z)) Q E s := by
  have ty : s.TypeIs (.ref z) "zip" := ⟨_, hz, rfl⟩
  unfold pyNext
  exact wpAny_bind (wpAny_attempt (wpAny_callSpecial?_slot (name := Str.ofString "__next__") ty F.slot_zip_next
    (wpAny_call_entry F.slot_zip_next ty F.entry_zip_next (held_item D hz hT hTI h1 h2 hl1 hl2 hx hy fun h' a1 a2 a3 a4 a5 a6 => wpAny_pure (hQ h' a1 a2 a3 a4 a5 a6)) (F.args_zip_next_1 _))))
theorem pyNext_fresh {t1 t2 : Bool} {z TI TO i1 i2 l1 l2 : Addr} {k1 k2 : Nat} {xs ys : Array Value} {x y a b : Value} {Q : Option Value → Shared → Prop} (D : ZipApart z TI TO i1 i2 l1 l2)
    (hz : IsZ s.heap z TI TO .none (.bool false)) (hTI : IsPair s.heap TI (.ref i1) (.ref i2)) (hTO : IsPair s.heap TO a b)
    (h1 : IsIt t1 s.heap i1 l1 k1) (h2 : IsIt t2 s.heap i2 l2 k2) (hl1 : IsSq t1 s.heap l1 xs) (hl2 : IsSq t2 s.heap l2 ys) (hx : xs[k1]? = some x) (hy : ys[k2]? = some y)
    (hQ : ∀ h' b, IsZ h' z TI TO (rawInt s.heap.objs.size) (.bool b) → IsIt t1 h' i1 l1 (k1 + 1) → IsIt t2 h' i2 l2 (k2 + 1) → IsPair h' s.heap.objs.size x y → h'.objs.size = s.heap.objs.size + 1 →
      (∀ c o, c ≠ z → c ≠ TO → c ≠ i1 → c ≠ i2 → s.heap.get? c = some o → h'.get? c = some o) → IsPair h' TO x y → Q (some (.ref s.heap.objs.size)) { s with heap := h' }) :
    wpAny (model prog w) A (pyNext (.ref z)) Q E s := by
  have ty : s.TypeIs (.ref z) "zip" := ⟨_, hz, rfl⟩
  unfold pyNext
  exact wpAny_bind (wpAny_attempt (wpAny_callSpecial?_slot (name := Str.ofString "__next__") ty F.slot_zip_next
    (wpAny_call_entry F.slot_zip_next ty F.entry_zip_next (fresh_item D hz hTI hTO h1 h2 hl1 hl2 hx hy fun h' b a1 a2 a3 a4 a5 a6 a7 => wpAny_pure (hQ h' b a1 a2 a3 a4 a5 a6 a7)) (F.args_zip_next_1 _))))
theorem pyNext_end {t1 t2 : Bool} {z TI TO i1 i2 l1 l2 T : Addr} {k1 k2 : Nat} {xs ys : Array Value} {b : Bool} {Q : Option Value → Shared → Prop} (hh : A.handled = none) (D : ZipApart z TI TO i1 i2 l1 l2)
    (hz : IsZ s.heap z TI TO (rawInt T) (.bool b)) (hT : ∃ o, s.heap.get? T = some o) (hTI : IsPair s.heap TI (.ref i1) (.ref i2))
    (h1 : IsIt t1 s.heap i1 l1 k1) (h2 : IsIt t2 s.heap i2 l2 k2) (hl1 : IsSq t1 s.heap l1 xs) (hl2 : IsSq t2 s.heap l2 ys) (hend : xs[k1]? = none ∨ ys[k2]? = none)
    (hQ : ∀ h', (∀ c o, c ≠ z → c ≠ i1 → c ≠ i2 → s.heap.get? c = some o → h'.get? c = some o) → Q none { s with heap := h' }) :
    wpAny (model prog w) A (pyNext (.ref z)) Q E s := by
  have ty : s.TypeIs (.ref z) "zip" := ⟨_, hz, rfl⟩
  unfold pyNext
  refine wpAny_bind (wpAny_attempt (wpAny_callSpecial?_slot (name := Str.ofString "__next__") ty F.slot_zip_next
    (wpAny_call_entry F.slot_zip_next ty F.entry_zip_next (held_end hh D hz hT hTI h1 h2 hl1 hl2 hend fun h' e hk he => ?_) (F.args_zip_next_1 _))))
  obtain ⟨o, ho, hc⟩ := he
  exact wpAny_bind (wpAny_isInstance (T := "StopIteration") (b := true) ⟨o, ho, hc⟩ isSubtype_stop (wpAny_pure (hQ _ hk)))
end
theorem nn {a b : Nat} (h : a ≠ b) : @Ne Addr a b := h
/-- what was laid down ahead of N stays; the list at N + 5 has the pairs -/
structure Had (N : Nat) (h0 h : Heap) (xs ys : Array Value) (i : Nat) (acc : Array Value) (c : Nat) : Prop where
  old : ∀ a o, a < N → h0.get? a = some o → h.get? a = some o
  lst : h.get? (N + 5) = some { cls := .type "list", dict := none, data := .seq acc c, slots := #[] }
  len : acc.size = i
  prs : ∀ j x y, j < i → xs[j]? = some x → ys[j]? = some y → ∃ p, acc[j]? = some (.ref p) ∧ IsPair h p x y ∧ N + 5 < p
structure Zs (t : Bool) (N l1 l2 : Nat) (h : Heap) (i : Nat) : Prop where
  z : (i = 0 ∧ IsZ h (N + 4) (N + 2) (N + 3) .none (.bool false)) ∨ (∃ (T : Addr) (b : Bool), IsZ h (N + 4) (N + 2) (N + 3) (rawInt T) (.bool b) ∧ (∃ o, h.get? T = some o) ∧ N + 5 < T)
  ti : IsPair h (N + 2) (.ref N) (.ref (N + 1))
  to : ∃ a b, IsPair h (N + 3) a b
  i1 : IsIt true h N l1 i
  i2 : IsIt t h (N + 1) l2 i
theorem pyNext_any {prog : Program} {w : World} {A : Around} {E : Value → Shared → Prop} {s : Shared} {t : Bool} {N l1 l2 i : Nat} {xs ys : Array Value} {x y : Value} {Q : Option Value → Shared → Prop} (a1 : l1 < N) (a2 : l2 < N) (hs : N + 5 < s.heap.objs.size)
    (hZ : Zs t N l1 l2 s.heap i) (hl1 : IsSq true s.heap l1 xs) (hl2 : IsSq t s.heap l2 ys) (hx : xs[i]? = some x) (hy : ys[i]? = some y)
    (hQ : ∀ h', Zs t N l1 l2 h' (i + 1) → IsPair h' s.heap.objs.size x y → h'.objs.size = s.heap.objs.size + 1 → (∀ c o, c < N ∨ N + 5 ≤ c → s.heap.get? c = some o → h'.get? c = some o) → Q (some (.ref s.heap.objs.size)) { s with heap := h' }) :
    wpAny (model prog w) A (pyNext (.ref (N + 4))) Q E s := by
  have D : ZipApart (N + 4) (N + 2) (N + 3) N (N + 1) l1 l2 := zipApart_new a1 a2
  obtain ⟨hz, hti, ⟨a, b, hto⟩, h1, h2⟩ := hZ
  rcases hz with ⟨rfl, hz⟩ | ⟨T, b', hz, hT, hTN⟩
  · refine pyNext_fresh D hz hti hto h1 h2 hl1 hl2 hx hy fun h' b' c1 c2 c3 c4 c5 ck c6 => hQ h' ⟨.inr ⟨_, b', c1, ⟨_, c4⟩, hs⟩, ck _ _ (nn (by omega)) (nn (by omega)) (nn (by omega)) (nn (by omega)) hti, ⟨_, _, c6⟩, c2, c3⟩ c4 c5 fun c o hc e => ck c o (nn (by omega)) (nn (by omega)) (nn (by omega)) (nn (by omega)) e
  · refine pyNext_held D hz hT hti h1 h2 hl1 hl2 hx hy fun h' c1 c2 c3 c4 c5 ck => hQ h' ⟨.inr ⟨T, true, c1, ?_, hTN⟩, ck _ _ (nn (by omega)) (nn (by omega)) (nn (by omega)) hti, ⟨a, b, ck _ _ (nn (by omega)) (nn (by omega)) (nn (by omega)) hto⟩, c2, c3⟩ c4 c5 fun c o hc e => ck c o (nn (by omega)) (nn (by omega)) (nn (by omega)) e
    obtain ⟨o, ho⟩ := hT
    exact ⟨o, ck _ _ (nn (by omega)) (nn (by omega)) (nn (by omega)) ho⟩
section
variable {prog : Program} {w : World} {A : Around} {R : Result → Shared → Prop} {s : Shared}
theorem loop {t : Bool} {N l1 l2 : Nat} {h0 : Heap} {xs ys : Array Value} {res : Value} (hh : A.handled = none) (a1 : l1 < N) (a2 : l2 < N) (b1 : IsSq true h0 l1 xs) (b2 : IsSq t h0 l2 ys) (hn : min xs.size ys.size ≤ sizeLine) (hp : 0 < min xs.size ys.size) :
    ∀ (k i : Nat) (h : Heap) (acc : Array Value) (c : Nat), min xs.size ys.size - i = k → i ≤ min xs.size ys.size → Had N h0 h xs ys i acc c → Zs t N l1 l2 h i → N + 5 < h.objs.size →
      (∀ h' acc' c', Had N h0 h' xs ys (min xs.size ys.size) acc' c' → N + 5 < h'.objs.size → R (.ok (.ret res)) { s with heap := h' }) →
      codeAny (model prog w) A (.builtin "list.extend.loop" ⟨[.ref (N + 5), .ref (N + 4), res], []⟩) R { s with heap := h } := by
  have D : ZipApart (N + 4) (N + 2) (N + 3) N (N + 1) l1 l2 := zipApart_new a1 a2
  intro k
  induction k with
  | zero =>
    intro i h acc c hk hi hH hZ hs hR
    have hin : i = min xs.size ys.size := by omega
    subst hin
    refine codeAny_builtin F.entry_extend_loop ?_
    rw [Around.under_plainId F.plain_extend_loop _]
    show wpAny _ A.in1 (pyNext (.ref (N + 4)) >>= _) _ _ _
    obtain ⟨T, b, hz, hT, _⟩ := hZ.z.resolve_left fun z => by omega
    have hend : xs[min xs.size ys.size]? = none ∨ ys[min xs.size ys.size]? = none := by
      rcases Nat.le_total xs.size ys.size with h | h
      · exact .inl (by rw [Nat.min_eq_left h]; exact Array.getElem?_eq_none (Nat.le_refl _))
      · exact .inr (by rw [Nat.min_eq_right h]; exact Array.getElem?_eq_none (Nat.le_refl _))
    refine wpAny_bind (pyNext_end (s := { s with heap := h }) hh D hz hT hZ.ti hZ.i1 hZ.i2 (b1.at fun o e => hH.old _ o a1 e) (b2.at fun o e => hH.old _ o a2 e) hend fun h' hk' => ?_)
    have keep : ∀ a o, a < N ∨ N + 5 ≤ a → h.get? a = some o → h'.get? a = some o := fun a o ha e => hk' a o (nn (by omega)) (nn (by omega)) (nn (by omega)) e
    refine wpAny_pure (hR h' acc c ⟨fun a o ha e => keep a o (.inl ha) (hH.old a o ha e), keep _ _ (.inr (Nat.le_refl _)) hH.lst, hH.len, fun j x y hj hx hy => ?_⟩ ?_)
    · obtain ⟨p, e1, e2, e3⟩ := hH.prs j x y hj hx hy
      exact ⟨p, e1, keep _ _ (.inr (by omega)) e2, e3⟩
    · exact Heap.lt_size (keep _ _ (.inr (Nat.le_refl _)) hH.lst)
  | succ k ih =>
    intro i h acc c hk hi hH hZ hs hR
    have hlt : i < min xs.size ys.size := by omega
    have hx : xs[i]? = some (xs[i]'(by omega)) := Array.getElem?_eq_getElem (by omega)
    have hy : ys[i]? = some (ys[i]'(by omega)) := Array.getElem?_eq_getElem (by omega)
    refine codeAny_builtin F.entry_extend_loop ?_
    rw [Around.under_plainId F.plain_extend_loop _]
    show wpAny _ A.in1 (pyNext (.ref (N + 4)) >>= _) _ _ _
    refine wpAny_bind (pyNext_any (s := { s with heap := h }) a1 a2 hs hZ (b1.at fun o e => hH.old _ o a1 e) (b2.at fun o e => hH.old _ o a2 e) hx hy fun h' hZ' hp' hs' hk' => ?_)
    have hS' := hk' _ _ (.inr (Nat.le_refl _)) hH.lst
    show wpAny _ A.in1 (updateSeq (N + 5) (·.push (.ref h.objs.size)) >>= _) _ _ _
    refine wpAny_bind ?_
    refine wpAny_updateSeq hS' rfl (wpAny_pure ⟨plainId_quiet F.plain_extend_loop _, ih (i + 1) (h'.update (N + 5) (Obj.mapSeq (·.push (.ref h.objs.size)))) (acc.push (.ref h.objs.size)) _ (by omega) hlt ⟨fun a o ha e => ?_, Heap.get?_update_self _ hS' rfl, by rw [Array.size_push, hH.len], fun j x y hj hxj hyj => ?_⟩ ?_ ?_ hR⟩)
      (by rw [hH.len]; omega) (by show (acc.push _).size ≤ sizeLine + 1; rw [Array.size_push, hH.len]; omega)
    · exact (Heap.get?_update_other _ _ (nn (by omega))).trans (hk' a o (.inl ha) (hH.old a o ha e))
    · by_cases e : j = i
      · subst e
        rw [hx] at hxj
        rw [hy] at hyj
        cases hxj
        cases hyj
        exact ⟨h.objs.size, by rw [Array.getElem?_push, if_pos hH.len.symm], (Heap.get?_update_other _ _ (nn (by omega))).trans hp', hs⟩
      · obtain ⟨p, e1, e2, e3⟩ := hH.prs j x y (by omega) hxj hyj
        exact ⟨p, by rw [Array.getElem?_push, if_neg (by rw [hH.len]; exact e)]; exact e1, (Heap.get?_update_other _ _ (nn (by omega))).trans (hk' _ _ (.inr (by omega)) e2), e3⟩
    · obtain ⟨z1, z2, ⟨a, b, z3⟩, z4, z5⟩ := hZ'
      have up : ∀ a o, a ≠ N + 5 → h'.get? a = some o → (h'.update (N + 5) (Obj.mapSeq (·.push (.ref h.objs.size)))).get? a = some o := fun a o ha e => (Heap.get?_update_other _ _ (nn (Ne.symm ha))).trans e
      refine ⟨?_, up _ _ (by omega) z2, ⟨a, b, up _ _ (by omega) z3⟩, z4.at fun o e => up _ _ (by omega) e, z5.at fun o e => up _ _ (by omega) e⟩
      rcases z1 with ⟨z, _⟩ | ⟨T, b, z, ⟨o, ho⟩, hT⟩
      · omega
      · exact .inr ⟨T, b, up _ _ (by omega) z, ⟨o, up _ _ (by omega) ho⟩, hT⟩
    · exact Heap.lt_size (Heap.get?_update_self _ hS' rfl)
end
end ZT
end PySem
namespace PySem
open Sem (wp)
open PyProof.Rows
namespace F
theorem nolen_zip : typeLookup (.type "zip") "__len__" = pure none := by rw [typeLookup_type, builtinLookup_eq_fast]; kernel_rfl
theorem nohint_zip : typeLookup (.type "zip") "__length_hint__" = pure none := by rw [typeLookup_type, builtinLookup_eq_fast]; kernel_rfl
end F
namespace ZT
abbrev itO (t : Bool) (l : Addr) : Obj := if t then { cls := .type "tuple_iterator", data := .fields #[.ref l, .int 0 0] } else { cls := .type "list_iterator", data := .fields #[.ref l, .int 0 0] }
abbrev zh1 (h : Heap) (l1 : Addr) : Heap := h.push { cls := .type "tuple_iterator", data := .fields #[.ref l1, .int 0 0] }
abbrev zh2 (t : Bool) (h : Heap) (l1 l2 : Addr) : Heap := (zh1 h l1).push (itO t l2)
abbrev zh3 (t : Bool) (h : Heap) (l1 l2 : Addr) : Heap := (zh2 t h l1 l2).push { cls := .type "tuple", data := .seq #[.ref h.objs.size, .ref (zh1 h l1).objs.size] }
abbrev zh4 (t : Bool) (h : Heap) (l1 l2 : Addr) : Heap := (zh3 t h l1 l2).push { cls := .type "tuple", data := .seq #[.none, .none] }
abbrev zh5 (t : Bool) (h : Heap) (l1 l2 : Addr) : Heap := (zh4 t h l1 l2).push { cls := .type "zip", data := .fields #[.none, .bool false, .bool false, .ref (zh2 t h l1 l2).objs.size, .ref (zh3 t h l1 l2).objs.size] }
set_option maxHeartbeats 2000000 in
theorem meets_new (t : Bool) (l1 l2 : Addr) (xs ys : Array Value) :
    Meets (Builtin.«zip.__new__» ⟨[.type "zip", .ref l1, .ref l2], []⟩) (fun _ R s => s.heap.IsTuple l1 xs ∧ IsSq t s.heap l2 ys ∧
      R (.ok (.ret (.ref (zh4 t s.heap l1 l2).objs.size))) { s with heap := zh5 t s.heap l1 l2 }) :=
  .of_wp fun prog w A R s h => by
    obtain ⟨hp, g, d, tk, os⟩ := s; obtain ⟨hl1, hl2, h⟩ := h
    have hsub := sub_zip
    have hL1 : Heap.IsTuple (Shared.heap ⟨hp, g, d, tk, os⟩) l1 xs := hl1
    cases t
    · have hL2 : Heap.IsList (Shared.heap ⟨hp.push { cls := .type "tuple_iterator", data := .fields #[.ref l1, .int 0 0] }, g, d, tk, os⟩) l2 ys := Heap.IsList.push hl2 _
      wp_walk using wpAny_pyIter_tuple hL1, wpAny_pyIter_list hL2
      exact ⟨_, rfl, h⟩
    · have hL2 : Heap.IsTuple (Shared.heap ⟨hp.push { cls := .type "tuple_iterator", data := .fields #[.ref l1, .int 0 0] }, g, d, tk, os⟩) l2 ys := Heap.IsTuple.push hl2 _
      wp_walk using wpAny_pyIter_tuple hL1, wpAny_pyIter_tuple hL2
      exact ⟨_, rfl, h⟩
section
variable {prog : Program} {w : World} {A : Around} {E : Value → Shared → Prop} {s : Shared}
theorem call_zip {t : Bool} {l1 l2 : Addr} {xs ys : Array Value} {Q : Value → Shared → Prop} (hl1 : IsSq true s.heap l1 xs) (hl2 : IsSq t s.heap l2 ys)
    (h : ∀ h', Zs t s.heap.objs.size l1 l2 h' 0 → h'.objs.size = s.heap.objs.size + 5 → (∀ c o, s.heap.get? c = some o → h'.get? c = some o) → Q (.ref (s.heap.objs.size + 4)) { s with heap := h' }) :
    wpAny (model prog w) A (call (.type "zip") [.ref l1, .ref l2]) Q E s := by
  refine callType_new F.called_zip (by decide) (F.typeCall_zip_2 _ _) (F.newCall_zip_2 _ _) (fun obj => F.args_object_init_3 obj _ _) F.entry_zip_new
    (meets_new t l1 l2 xs ys) ⟨hl1, hl2, ?_⟩
  have z1 : (zh1 s.heap l1).objs.size = s.heap.objs.size + 1 := Heap.size_push ..
  have z2 : (zh2 t s.heap l1 l2).objs.size = s.heap.objs.size + 2 := by rw [Heap.size_push, z1]
  have z3 : (zh3 t s.heap l1 l2).objs.size = s.heap.objs.size + 3 := by rw [Heap.size_push, z2]
  have z4 : (zh4 t s.heap l1 l2).objs.size = s.heap.objs.size + 4 := by rw [Heap.size_push, z3]
  have z5 : (zh5 t s.heap l1 l2).objs.size = s.heap.objs.size + 5 := by rw [Heap.size_push, z4]
  have g5 : (zh5 t s.heap l1 l2).get? (zh4 t s.heap l1 l2).objs.size = some _ := Heap.get?_push_size _ rfl
  have g4 : (zh5 t s.heap l1 l2).get? (zh3 t s.heap l1 l2).objs.size = some _ := Heap.get?_push_of_some _ (Heap.get?_push_size _ rfl)
  have g3 : (zh5 t s.heap l1 l2).get? (zh2 t s.heap l1 l2).objs.size = some _ := Heap.get?_push_of_some _ (Heap.get?_push_of_some _ (Heap.get?_push_size _ rfl))
  have g2 : (zh5 t s.heap l1 l2).get? (zh1 s.heap l1).objs.size = some (itO t l2) := Heap.get?_push_of_some _ (Heap.get?_push_of_some _ (Heap.get?_push_of_some _ (Heap.get?_push_size _ (by cases t <;> rfl))))
  have g1 : (zh5 t s.heap l1 l2).get? s.heap.objs.size = some _ := Heap.get?_push_of_some _ (Heap.get?_push_of_some _ (Heap.get?_push_of_some _ (Heap.get?_push_of_some _ (Heap.get?_push_size _ rfl))))
  show _ ∧ _
  rw [z2, z3, z4] at g5
  rw [z1, z2] at g3
  rw [z3] at g4
  rw [z1] at g2
  rw [z4]
  refine ⟨⟨_, g5, rfl⟩, h _ ⟨.inl ⟨rfl, g5⟩, g3, ⟨_, _, g4⟩, ⟨_, g1, rfl, rfl⟩, ?_⟩ z5 fun c o x =>
    Heap.get?_push_of_some _ (Heap.get?_push_of_some _ (Heap.get?_push_of_some _ (Heap.get?_push_of_some _ (Heap.get?_push_of_some _ x))))⟩
  cases t
  · exact ⟨_, g2, rfl, rfl⟩
  · exact ⟨_, g2, rfl, rfl⟩
end
end ZT
end PySem
namespace PySem
open Sem (wp)
open PyProof.Rows
namespace ZT
section
variable {prog : Program} {w : World} {A : Around} {E : Value → Shared → Prop} {s : Shared}
theorem collect_zip {t : Bool} {N l1 l2 : Nat} {h0 h : Heap} {xs ys : Array Value} {Q : List Value → Shared → Prop} (hh : A.handled = none) (a1 : l1 < N) (a2 : l2 < N) (b1 : IsSq true h0 l1 xs) (b2 : IsSq t h0 l2 ys) (hn : min xs.size ys.size ≤ sizeLine) (hp : 0 < min xs.size ys.size)
    (hZ : Zs t N l1 l2 h 0) (hsz : h.objs.size = N + 5) (hk : ∀ a o, a < N → h0.get? a = some o → h.get? a = some o)
    (hQ : ∀ h' acc c, Had N h0 h' xs ys (min xs.size ys.size) acc c → N + 5 < h'.objs.size → Q acc.toList { s with heap := h' }) :
    wpAny (model prog w) A (collect (.ref (N + 4))) Q E { s with heap := h } := by
  obtain ⟨hz, hti, ⟨a, b, hto⟩, hi1, hi2⟩ := hZ
  have hz : IsZ h (N + 4) (N + 2) (N + 3) .none (.bool false) := by
    rcases hz with ⟨_, hz⟩ | ⟨T, b, hz, ⟨o, ho⟩, hT⟩
    · exact hz
    · exact absurd (Nat.lt_trans hT (Heap.lt_size ho)) (by rw [hsz]; exact Nat.lt_irrefl _)
  unfold collect
  refine wpAny_bind (wpAny_runValue (codeAny_builtin F.entry_proto_collect ?_))
  rw [Around.under_plainId F.plain_proto_collect _]
  show wpAny _ A.in1 (newList [] >>= fun l => again (.builtin "list.__iadd__" ⟨[l, .ref (N + 4)], []⟩)) _ _ _
  refine wpAny_bind (wpAny_newObj_type ?_)
  show wpAny _ A.in1 (again (.builtin "list.__iadd__" ⟨[.ref h.objs.size, .ref (N + 4)], []⟩)) _ _ _
  rw [hsz]
  refine wpAny_pure ⟨plainId_quiet F.plain_list_iadd _, codeAny_builtin F.entry_list_iadd ?_⟩
  rw [Around.under_plainId F.plain_list_iadd _]
  have hz1 : IsZ (h.push { cls := .type "list", data := .seq ([] : List Value).toArray }) (N + 4) (N + 2) (N + 3) .none (.bool false) := Heap.get?_push_of_some _ hz
  have ty : Shared.TypeIs { s with heap := h.push { cls := .type "list", data := .seq ([] : List Value).toArray } } (.ref (N + 4)) "zip" := ⟨_, hz1, rfl⟩
  show wpAny _ A.in1 (Builtin.List.listExtendWith (.ref (N + 5)) (.ref (N + 4)) (.ref (N + 5))) _ _ _
  unfold Builtin.List.listExtendWith
  refine wpAny_bind (wpAny_typeOf ty ?_)
  have e1 : Builtin.List.listSameRef (.ref (N + 5)) (.ref (N + 4)) = false := by simp [Builtin.List.listSameRef]
  have e2 : (Value.type "zip" == Value.type "list") = false := by decide
  have e3 : (Value.type "zip" == Value.type "tuple") = false := by decide
  simp only [e1, e2, e3, Bool.or_false, Bool.false_eq_true, if_false]
  refine wpAny_bind (wpAny_pyIter_zip hz1 ?_)
  refine wpAny_bind (wpAny_holding ?_)
  unfold Builtin.List.listLengthHint
  refine wpAny_bind (wpAny_specialOf ty F.nolen_zip ?_)
  show wpAny _ A.in1 (specialOf (Value.ref (N + 4)) (Str.ofString "__length_hint__") >>= _) _ _ _
  refine wpAny_bind (wpAny_specialOf ty F.nohint_zip ?_)
  refine wpAny_pure ?_
  show wpAny _ A.in1 (rule "list.extend.makes-room" >>= fun _ => Builtin.List.listTouch (.ref (N + 5)) >>= fun _ =>
    again (.builtin "list.extend.loop" ⟨[.ref (N + 5), .ref (N + 4), .ref (N + 5)], []⟩)) _ _ _
  refine wpAny_bind (wpAny_rule ?_)
  have g1 : (h.push { cls := .type "list", data := .seq ([] : List Value).toArray }).get? (N + 5) = some { cls := .type "list", data := .seq ([] : List Value).toArray } := by
    rw [← hsz]; exact Heap.get?_push_size _ rfl
  refine wpAny_bind ?_
  show wpAny _ A.in1 (updateSeq (N + 5) (·.push .none) >>= fun _ => updateSeq (N + 5) (·.pop)) _ _ _
  refine wpAny_bind (wpAny_updateSeq g1 rfl ?_)
  have g2 := Heap.get?_update_self (Obj.mapSeq (·.push Value.none)) g1 rfl
  refine wpAny_updateSeq g2 rfl ?_
  have g3 := Heap.get?_update_self (Obj.mapSeq (·.pop)) g2 rfl
  have oth : ∀ b o, b ≠ N + 5 → h.get? b = some o →
      (((h.push { cls := .type "list", data := .seq ([] : List Value).toArray }).update (N + 5) (Obj.mapSeq (·.push Value.none))).update (N + 5) (Obj.mapSeq (·.pop))).get? b = some o :=
    fun b o hb e => (Heap.get?_update_other _ _ (nn (Ne.symm hb))).trans ((Heap.get?_update_other _ _ (nn (Ne.symm hb))).trans (Heap.get?_push_of_some _ e))
  refine wpAny_pure ⟨plainId_quiet F.plain_extend_loop _, loop (s := s) hh a1 a2 b1 b2 hn hp _ 0 _ #[] _ rfl (Nat.zero_le _) ⟨fun a o ha e => oth a o (by omega) (hk a o ha e), g3, rfl, (fun j x y hj => absurd hj (Nat.not_lt_zero _))⟩
    ⟨.inl ⟨rfl, oth _ _ (by omega) hz⟩, oth _ _ (by omega) hti, ⟨a, b, oth _ _ (by omega) hto⟩, hi1.at fun o e => oth _ _ (by omega) e, hi2.at fun o e => oth _ _ (by omega) e⟩ (Heap.lt_size g3) fun h' acc' c' hH hs' => ?_⟩
  show wpAny _ A (load (N + 5) >>= _) _ _ _
  refine wpAny_bind (wpAny_load hH.lst ?_)
  exact wpAny_pure (hQ h' acc' c' hH hs')
theorem code_tuple_zip {t : Bool} {N l1 l2 : Nat} {h0 h : Heap} {xs ys : Array Value} {Q : Value → Shared → Prop} (hh : A.handled = none) (a1 : l1 < N) (a2 : l2 < N) (b1 : IsSq true h0 l1 xs) (b2 : IsSq t h0 l2 ys) (hn : min xs.size ys.size ≤ sizeLine) (hp : 0 < min xs.size ys.size)
    (hZ : Zs t N l1 l2 h 0) (hsz : h.objs.size = N + 5) (hk : ∀ a o, a < N → h0.get? a = some o → h.get? a = some o)
    (hQ : ∀ h' acc c, Had N h0 h' xs ys (min xs.size ys.size) acc c → N + 5 < h'.objs.size → Q (.ref h'.objs.size) { s with heap := h'.push { cls := .type "tuple", data := .seq acc } }) :
    codeAny (model prog w) A (.call (.builtin "tuple.__new__") ⟨[.type "tuple", .ref (N + 4)], []⟩) (wants (fun obj s₁ => s₁.TypeIs obj "tuple" ∧ Q obj s₁) E) { s with heap := h } := by
  have hz : IsZ h (N + 4) (N + 2) (N + 3) .none (.bool false) := by
    rcases hZ.z with ⟨_, hz⟩ | ⟨T, b, hz, ⟨o, ho⟩, hT⟩
    · exact hz
    · exact absurd (Nat.lt_trans hT (Heap.lt_size ho)) (by rw [hsz]; exact Nat.lt_irrefl _)
  have ty : Shared.TypeIs { s with heap := h } (.ref (N + 4)) "zip" := ⟨_, hz, rfl⟩
  refine codeAny_of_tree ?_
  show wpAny _ A.in1 (do checkBuiltinCall "tuple.__new__" ⟨[.type "tuple", .ref (N + 4)], []⟩; again (.builtin "tuple.__new__" ⟨[.type "tuple", .ref (N + 4)], []⟩)) _ _ _
  refine wpAny_bind (wpAny_of_eq (F.newCall_tuple_1 _) (wpAny_pure ⟨plainId_quiet F.plain_tuple_new _, codeAny_builtin F.entry_tuple_new ?_⟩))
  rw [Around.under_plainId F.plain_tuple_new _]
  have hsub := sub_tuple_self
  have hinit := init_tuple_lookup
  have hmh := madeHere_tuple
  have hh1 : A.in1.handled = none := hh
  wp_walk using wpAny_typeOf ty, collect_zip hh1 a1 a2 b1 b2 hn hp hZ hsz hk
  intro h' acc c hH hs'
  show wpAny _ _ (Builtin.Tuple.tupleExact acc.toList.toArray >>= fun v => ret v) _ _ _
  unfold Builtin.Tuple.tupleExact
  refine wpAny_bind (wpAny_newObj_type ?_ (by show acc.toList.toArray.size ≤ sizeLine; simp only [Array.toArray_toList]; rw [hH.len]; exact hn))
  refine wpAny_pure ?_
  have e : acc.toList.toArray = acc := by simp
  rw [e]
  exact ⟨⟨_, Heap.get?_push_size _ rfl, rfl⟩, hQ h' acc c hH hs'⟩
theorem call_tuple_zip {t : Bool} {N l1 l2 : Nat} {h0 h : Heap} {xs ys : Array Value} {Q : Value → Shared → Prop} (hh : A.handled = none) (a1 : l1 < N) (a2 : l2 < N) (b1 : IsSq true h0 l1 xs) (b2 : IsSq t h0 l2 ys) (hn : min xs.size ys.size ≤ sizeLine) (hp : 0 < min xs.size ys.size)
    (hZ : Zs t N l1 l2 h 0) (hsz : h.objs.size = N + 5) (hk : ∀ a o, a < N → h0.get? a = some o → h.get? a = some o)
    (hQ : ∀ h' acc c, Had N h0 h' xs ys (min xs.size ys.size) acc c → N + 5 < h'.objs.size → Q (.ref h'.objs.size) { s with heap := h'.push { cls := .type "tuple", data := .seq acc } }) :
    wpAny (model prog w) A (call (.type "tuple") [.ref (N + 4)]) Q E { s with heap := h } := by
  refine callType_codes (Q₁ := fun obj s₁ => s₁.TypeIs obj "tuple" ∧ Q obj s₁) F.called_tuple (F.typeCall_tuple_1 _) F.entry_object_init (code_tuple_zip (Q := Q) hh a1 a2 b1 b2 hn hp hZ hsz hk hQ) fun obj s₁ h₁ => ?_
  exact ⟨h₁.1, F.args_object_init_2 obj _, object_init_meets F.called_tuple.init.lookup F.called_tuple.made (by decide) prog w A.in1 _ s₁ ⟨h₁.1, rfl, h₁.2⟩⟩
end
end ZT
end PySem
/-! the layer's rule for tuple(zip(a, b)) of one item each -/
namespace L2
open PySem PySem.Spec PyProof.Rows
section
variable {X : Cx} {K : PySem.W.Frag} {pins : List (Addr × Obj)} {σ : St} {H H' : Hp} {s : Shared} {h' : Heap}
/-- several new objects laid and tracked -/
theorem Inv.laidMany {t' : Nat} (I : Inv X pins σ H s) (k : ∀ b u, s.heap.get? b = some u → h'.get? b = some u) (sm : ∀ b o, H b = some o → H' b = some o) (lo : ∀ b, b < s.heap.objs.size → H b = none → H' b = none)
    (new : ∀ b o, H b = none → H' b = some o → ObjOk X.prog X.w H' h' b o) : Inv X pins σ H' { s with heap := h', toks := t' } := by
  refine I.un ⟨fun b u q _ _ _ => k b u q, fun b u q _ _ _ => ⟨u.slots, k b u q⟩, fun b u q n _ => lo b (Heap.lt_size q) n, fun b u q _ => ⟨u, k b u q⟩, fun b xs q => sm _ _ q, fun b u xs q => sm _ _ q, fun b ps q => ⟨#[], by rw [sm _ _ q]; simp⟩⟩ fun b o e => ?_
  cases hb : H b with
  | none => exact new b o hb e
  | some u =>
    rw [sm _ _ hb] at e
    cases e
    exact (I.hok b _ hb).stay (fun c v _ q => k c v q) (fun c q => sm _ _ q) fun c xs q => sm _ _ q
def tTupZip (K : PySem.W.Frag) (ta : TA) : TE := fun σ H Q => ta σ H fun vs H1 => ∃ a b x y, vs = [.ref a, .ref b] ∧ SqT K H1 a [x] ∧ (SqT K H1 b [y] ∨ SqL K H1 b [y]) ∧
  ∀ p r, H1 p = none → (upd H1 p (.tup [x, y])) r = none → Q (.ref r) (upd (upd H1 p (.tup [x, y])) r (.tup [.ref p]))
theorem pe_tupZip {a b : Expr} {ta : TA} {p p' pos pos' : Pos} (hg : Gl X "zip") (hm : X.mg "zip" = none) (hg' : Gl X "tuple") (hm' : X.mg "tuple" = none) (hc : X.calm = true) (ha : PA X [a, b] ta) (hK : X.K = K := by rfl)
    (hs : starEach [a, b] X.env = [(false, eval a X.env), (false, eval b X.env)] := by rfl) (hs2 : starEach [b] X.env = [(false, eval b X.env)] := by rfl)
    (hs' : starEach [.Call (.Name "zip" p) [a, b] [] pos] X.env = [(false, eval (.Call (.Name "zip" p) [a, b] [] pos) X.env)] := by rfl) :
    PE X (.Call (.Name "tuple" p') [.Call (.Name "zip" p) [a, b] [] pos] [] pos') (tTupZip K ta) := by
  subst hK
  intro pins s σ H Q I h
  refine wpAny_Call_Name_kw (ld_blt I hg' hm' bt_tuple ?_)
  refine PyProof.Rows.callWith_type1 ?_ hs' rfl
  rw [hs']
  refine Calls.spliced_cons (Call_ (ld_blt I hg hm bt_zip (PyProof.Rows.callWith_type1 (thn (ha pos pins s σ H _ I h) fun us s1 ⟨vs, H1, I1, r1, q1⟩ => ?_) (by rw [hs, hs2]) (by rw [hs2]; rfl))))
  obtain ⟨l1, l2, x, y, e, q1, q2, q⟩ := q1
  subst e
  cases r1 with
  | cons r rr =>
    cases rr with
    | cons r' rr =>
      cases rr
      cases r
      cases r'
      obtain ⟨its, rv, pl, _⟩ := I1.tuple q1
      have hsq : ∃ (t : Bool) (its2 : List Value), Vals [y] its2 ∧ ZT.IsSq t s1.heap l2 its2.toArray := by
        rcases q2 with q2 | q2
        · obtain ⟨its2, rv2, pl2, _⟩ := I1.tuple q2
          exact ⟨true, its2, rv2, pl2⟩
        · obtain ⟨its2, rv2, pl2, _⟩ := I1.list q2
          exact ⟨false, its2, rv2, pl2.isList⟩
      obtain ⟨t, its2, rv2, pl2⟩ := hsq
      obtain ⟨u, rfl, hu⟩ := vals1 rv
      obtain ⟨v, rfl, hv⟩ := vals1 rv2
      have lt1 : l1 < s1.heap.objs.size := pl.lt
      have lt2 : l2 < s1.heap.objs.size := by
        cases t
        · obtain ⟨o, e, _⟩ := pl2; exact Heap.lt_size e
        · obtain ⟨o, e, _⟩ := pl2; exact Heap.lt_size e
      refine ZT.call_zip (t := t) pl pl2 fun h' hZ hsz hk => ?_
      refine Calls.spliced_nil ?_
      have one : min (#[u] : Array Value).size (#[v] : Array Value).size = 1 := rfl
      refine ZT.call_tuple_zip (s := s1) (h0 := s1.heap) (I1.ok.hd hc) lt1 lt2 pl pl2 (by rw [one]; decide) (by rw [one]; decide) hZ hsz (fun a o _ e => hk a o e) fun h2 acc c hH hs2 => ?_
      obtain ⟨pp, e1, e2, e3⟩ := hH.prs 0 u v (by rw [one]; decide) rfl rfl
      have hacc : acc = #[.ref pp] := by
        have hl := hH.len
        rw [one] at hl
        apply Array.ext
        · exact hl
        · intro i h1 h2
          have : i = 0 := by simp at h2; omega
          subst this
          rw [Array.getElem?_eq_getElem h1] at e1
          exact Option.some.inj e1
      subst hacc
      have kp : ∀ b o, s1.heap.get? b = some o → (h2.push { cls := .type "tuple", data := .seq #[.ref pp] }).get? b = some o := fun b o e => Heap.get?_push_of_some _ (hH.old b o (Heap.lt_size e) e)
      have hp0 : H1 pp = none := I1.hok.fresh (show s1.heap.objs.size ≤ pp from Nat.le_of_lt (Nat.lt_of_le_of_lt (Nat.le_add_right _ _) e3))
      have hpl : pp < h2.objs.size := Heap.lt_size e2
      have hrp : h2.objs.size ≠ pp := Nat.ne_of_gt hpl
      have hr0 : (upd H1 pp (.tup [x, y])) h2.objs.size = none := by
        rw [upd_ne hrp]
        exact I1.hok.fresh (show s1.heap.objs.size ≤ h2.objs.size from Nat.le_of_lt (Nat.lt_of_le_of_lt (Nat.le_add_right _ _) hs2))
      refine ⟨.ref h2.objs.size, _, I1.laidMany (t' := s1.toks) (H' := upd (upd H1 pp (.tup [x, y])) h2.objs.size (.tup [.ref pp])) kp (fun b o e => ?_) (fun b hb e => ?_) (fun b o hb e => ?_), rfl, q pp h2.objs.size hp0 hr0⟩
      · rw [upd_ne (ne_of_none (show (upd H1 pp (.tup [x, y])) b = some o by rw [upd_ne (ne_of_none e hp0)]; exact e) hr0), upd_ne (ne_of_none e hp0)]
        exact e
      · have n1 : b ≠ pp := Nat.ne_of_lt (Nat.lt_trans hb (Nat.lt_of_le_of_lt (Nat.le_add_right _ _) e3))
        have n2 : b ≠ h2.objs.size := Nat.ne_of_lt (Nat.lt_trans hb (Nat.lt_of_le_of_lt (Nat.le_add_right _ _) hs2))
        rw [upd_ne n2, upd_ne n1]
        exact e
      · by_cases n2 : b = h2.objs.size
        · subst n2
          rw [upd_same] at e
          cases e
          exact ⟨(by show 1 ≤ sizeLine; decide), [.ref pp], .cons rfl .nil, ⟨_, Heap.get?_push_size _ rfl, rfl, _, rfl⟩⟩
        · rw [upd_ne n2] at e
          by_cases n1 : b = pp
          · subst n1
            rw [upd_same] at e
            cases e
            exact ⟨(by show 2 ≤ sizeLine; decide), [u, v], .cons hu (.cons hv .nil), ⟨_, Heap.get?_push_of_some _ e2, rfl, _, rfl⟩⟩
          · rw [upd_ne n1, hb] at e
            cases e
end
end L2
/-! what built_up does, for any kind of tree: the walk down leaves the nodes in their order, the walk back makes of each the outcome of its parts -/
namespace BV
open PySem L2
/-- all stays but what lies at addresses of S -/
abbrev AS := Addr → Prop
def Kp (S : AS) (H H' : Hp) : Prop := (∀ b xs, H b = some (.tup xs) → H' b = some (.tup xs)) ∧ ∀ b o, H b = some o → ¬ S b → H' b = some o
theorem Kp.refl (S : AS) (H : Hp) : Kp S H H := ⟨fun _ _ h => h, fun _ _ h _ => h⟩
theorem Kp.trans {S : AS} {H H1 H2 : Hp} (a : Kp S H H1) (b : Kp S H1 H2) : Kp S H H2 := ⟨fun c xs h => b.1 c xs (a.1 c xs h), fun c xs h n => b.2 c xs (a.2 c xs h n) n⟩
theorem Kp.of {S : AS} {H H' : Hp} (h : Same H H') : Kp S H H' := ⟨fun b o q => h b _ q, fun b o q _ => h b o q⟩
theorem Kp.upd {S : AS} {H : Hp} {p : Addr} {xs : List V} (h : S p) (hp : H p = some (.lst xs)) (o : HO) : Kp S H (upd H p o) := ⟨fun b u q => by
  rw [upd_ne (ne_of q hp (by intro z; cases z))]; exact q, fun b u q n => by
  have e : b ≠ p := fun e => n (by rw [e]; exact h)
  rw [upd_ne e]; exact q⟩
theorem Kp.tups {S : AS} {H H' : Hp} (h : Kp S H H') {b : Addr} {xs : List V} (q : H b = some (.tup xs)) : H' b = some (.tup xs) := h.1 b xs q
/-- S' is S and what is not there yet -/
def Wd (H : Hp) (S S' : AS) : Prop := ∀ a, S' a → S a ∨ H a = none
theorem same_new {H : Hp} {p : Addr} (h : H p = none) (o : HO) : Same H (upd H p o) := fun b u q => by rw [upd_ne (ne_of_none q h)]; exact q
/-- a kind of tree, how one stands on the heap, what its outcome is there -/
structure Tr where
  T : Type
  kids : T → List T
  size : T → Nat
  val : AS → Hp → T → V → Prop
  res : AS → Hp → T → V → Prop
  hsz : ∀ t, size t = 1 + ((kids t).map size).sum
  vm : ∀ {S H H' t v}, Kp S H H' → val S H t v → val S H' t v
  rm : ∀ {S H H' t v}, Kp S H H' → res S H t v → res S H' t v
  vw : ∀ {S S' H t v}, Wd H S S' → val S H t v → val S' H t v
  rw' : ∀ {S S' H t v}, Wd H S S' → res S H t v → res S' H t v
inductive All2 {α β : Type} (R : α → β → Prop) : List α → List β → Prop where
  | nil : All2 R [] []
  | cons {a b as bs} : R a b → All2 R as bs → All2 R (a :: as) (b :: bs)
namespace All2
variable {α β : Type} {R S : α → β → Prop}
theorem imp {as : List α} {bs : List β} (h : All2 R as bs) (f : ∀ a b, R a b → S a b) : All2 S as bs := by
  induction h with
  | nil => exact .nil
  | cons r _ ih => exact .cons (f _ _ r) ih
theorem app {as as' : List α} {bs bs' : List β} (h : All2 R as bs) (h' : All2 R as' bs') : All2 R (as ++ as') (bs ++ bs') := by
  induction h with
  | nil => exact h'
  | cons r _ ih => exact .cons r ih
theorem rev {as : List α} {bs : List β} (h : All2 R as bs) : All2 R as.reverse bs.reverse := by
  induction h with
  | nil => exact .nil
  | cons r _ ih => rw [List.reverse_cons, List.reverse_cons]; exact ih.app (.cons r .nil)
theorem len {as : List α} {bs : List β} (h : All2 R as bs) : as.length = bs.length := by
  induction h with
  | nil => rfl
  | cons _ _ ih => simp only [List.length_cons, ih]
theorem get {as : List α} {bs : List β} (h : All2 R as bs) : ∀ {i : Nat} {b : β}, bs[i]? = some b → ∃ a, as[i]? = some a ∧ R a b := by
  induction h with
  | nil => intro i b e; simp at e
  | @cons a b as bs r _ ih =>
    intro i c e
    cases i with
    | zero => simp at e; subst e; exact ⟨a, rfl, r⟩
    | succ i => exact ih (by simpa using e)
theorem get' {as : List α} {bs : List β} (h : All2 R as bs) : ∀ {i : Nat} {a : α}, as[i]? = some a → ∃ b, bs[i]? = some b ∧ R a b := by
  induction h with
  | nil => intro i b e; simp at e
  | @cons a b as bs r _ ih =>
    intro i c e
    cases i with
    | zero => simp at e; subst e; exact ⟨b, rfl, r⟩
    | succ i => exact ih (by simpa using e)
theorem split {as as' : List α} : ∀ {bs : List β}, All2 R (as ++ as') bs → ∃ b1 b2, bs = b1 ++ b2 ∧ All2 R as b1 ∧ All2 R as' b2 := by
  induction as with
  | nil => intro bs h; exact ⟨[], bs, rfl, .nil, h⟩
  | cons a as ih =>
    intro bs h
    cases h with
    | cons r h =>
      obtain ⟨b1, b2, rfl, h1, h2⟩ := ih h
      exact ⟨_ :: b1, b2, rfl, .cons r h1, h2⟩
end All2
/-- the nodes met so far, what waits (the next one first) -/
inductive Reach (D : Tr) (t0 : D.T) : List D.T → List D.T → Prop where
  | start : Reach D t0 [] [t0]
  | step {A : List D.T} {t : D.T} {r : List D.T} : Reach D t0 A (t :: r) → Reach D t0 (A ++ [t]) (D.kids t ++ r)
theorem Reach.back {D : Tr} {t0 t : D.T} {A W : List D.T} (h : Reach D t0 (A ++ [t]) W) : ∃ r, W = D.kids t ++ r ∧ Reach D t0 A (t :: r) := by
  generalize e : A ++ [t] = B at h
  cases h with
  | start => simp at e
  | step h =>
    have := List.append_inj' e rfl
    obtain ⟨rfl, e2⟩ := this
    cases e2
    exact ⟨_, rfl, h⟩
theorem Reach.first {D : Tr} {t0 : D.T} {W : List D.T} (h : Reach D t0 [] W) : W = [t0] := by
  generalize e : ([] : List D.T) = B at h
  cases h with
  | start => rfl
  | step h => simp at e
theorem Reach.size {D : Tr} {t0 : D.T} {A W : List D.T} (h : Reach D t0 A W) : A.length + (W.map D.size).sum = D.size t0 := by
  induction h with
  | start => simp
  | @step A t r _ ih =>
    simp only [List.length_append, List.length_cons, List.length_nil, List.map_append, List.sum_append, List.map_cons, List.sum_cons] at ih ⊢
    have := D.hsz t
    omega
theorem Tr.pos (D : Tr) (t : D.T) : 1 ≤ D.size t := by have := D.hsz t; omega
theorem Tr.len_le (D : Tr) : ∀ W : List D.T, W.length ≤ (W.map D.size).sum
  | [] => Nat.le_refl _
  | t :: r => by have := D.pos t; have := D.len_le r; simp only [List.length_cons, List.map_cons, List.sum_cons]; omega
theorem Tr.kids_le (D : Tr) (t : D.T) : (D.kids t).length ≤ D.size t := by have := D.len_le (D.kids t); have := D.hsz t; omega
/-- a node that was met: a pair of it and the number of its parts -/
def MetAt (D : Tr) (S : AS) (H : Hp) (t : D.T) (x : V) : Prop := ∃ p v, x = .ref p ∧ H p = some (.tup [v, .int ((D.kids t).length : Nat)]) ∧ D.val S H t v
theorem MetAt.mono {D : Tr} {S : AS} {H H' : Hp} (m : Kp S H H') {t : D.T} {x : V} (h : MetAt D S H t x) : MetAt D S H' t x := by
  obtain ⟨p, v, e, hp, hv⟩ := h
  exact ⟨p, v, e, m.tups hp, D.vm m hv⟩
theorem MetAt.wide {D : Tr} {S S' : AS} {H : Hp} (m : Wd H S S') {t : D.T} {x : V} (h : MetAt D S H t x) : MetAt D S' H t x := by
  obtain ⟨p, v, e, hp, hv⟩ := h
  exact ⟨p, v, e, hp, D.vw m hv⟩
def spP (D : Tr) : Sp := fun vs H Q _ => ∃ S t v, vs = [v] ∧ D.val S H t v ∧ D.size t ≤ 400000 ∧ ∀ r H' ps, Same H H' → H r = none → H' r = some (.lst ps) → All2 (D.val S H') (D.kids t) ps → Q (.ref r) H'
def spM (D : Tr) : Sp := fun vs H Q _ => ∃ S t v l us, vs = [v, .ref l] ∧ D.val S H t v ∧ D.size t ≤ 400000 ∧ H l = some (.lst us) ∧ ¬ S l ∧ (∀ a, S a → H a ≠ none) ∧ All2 (D.res S H) (D.kids t) us ∧ ∀ r H', Same H H' → D.res S H' t r → Q r H'
def spBuilt (P : Program) (w : World) (K : PySem.W.Frag) (mg : Str → Option Value) (base : Heap) : Sp := fun vs H Q _ => ∃ (D : Tr) (S : AS) (t : D.T) (v : V) (fp fm : Addr) (dp dm : FuncData) (np nm : List Str),
  vs = [v, .ref fp, .ref fm] ∧ FnOk P w K mg base CX0 2 fp dp np (spP D) ∧ PySem.W.keepIn K (.ref fp) = true ∧ Binds K dp np [] ∧ FnOk P w K mg base CX0 2 fm dm nm (spM D) ∧ PySem.W.keepIn K (.ref fm) = true ∧ Binds K dm nm [] ∧
  (∀ a, S a → H a ≠ none) ∧ D.val S H t v ∧ D.size t ≤ 400000 ∧ ∀ r H', Same H H' → D.res S H' t r → Q r H'
end BV
namespace BV
open PySem L2
theorem upd_id {H : Hp} {a : Addr} {o : HO} (h : H a = some o) : upd H a o = H := by
  funext b
  unfold upd
  split
  · rename_i e; rw [e, h]
  · rfl
end BV
set_option maxHeartbeats 4000000
namespace BV
open PySem L2
seal PE PT PW PA PS PSs PTs PI PG PGs PO
def top (i : Nat) : Stmt := PySem.Challenge.pw_speakmill_k43_calls_dry_and_deep.main.body.getD i (.Pass ⟨0, 0, 0, 0⟩)
abbrev s_built_up : Stmt := top 10
theorem sc_built_up : FnScope ["root", "parts_in", "made", "met", "waiting", "node", "parts", "done", "many", "made_parts"] ["root", "parts_in", "made"] (defScope s_built_up) := ⟨rfl, rfl, rfl, by decide +kernel, rfl, by decide +kernel, by decide +kernel⟩
/-- the built-ins' names stand for the built-ins -/
structure NoG (mg : Str → Option Value) : Prop where
  len_ : mg "len" = none
  list_ : mg "list" = none
  reversed_ : mg "reversed" = none
  range_ : mg "range" = none
  zip_ : mg "zip" = none
  isinstance_ : mg "isinstance" = none
  str_ : mg "str" = none
  tuple_ : mg "tuple" = none
  sum_ : mg "sum" = none
  max_ : mg "max" = none
  min_ : mg "min" = none
  int_ : mg "int" = none
  bool_ : mg "bool" = none
  enumerate_ : mg "enumerate" = none
  all_ : mg "all" = none
theorem ifT {c A B : Prop} [Decidable c] (h : c) (a : A) : if c then A else B := by rw [if_pos h]; exact a
theorem ifF {c A B : Prop} [Decidable c] (h : ¬ c) (b : B) : if c then A else B := by rw [if_neg h]; exact b
theorem upd_at {H : Hp} {a b : Addr} {o o' : HO} (h : H b = some o) (n : b ≠ a) : upd H a o' b = some o := by rw [upd_ne n]; exact h
theorem upd_none {H : Hp} {a b : Addr} {o' : HO} (h : upd H a o' b = none) : H b = none ∧ b ≠ a := by
  by_cases e : b = a
  · subst e; rw [upd_same] at h; cases h
  · rw [upd_ne e] at h; exact ⟨h, e⟩
theorem last_rev (y : V) (ws : List V) : (y :: ws).reverse[(y :: ws).reverse.length - 1]? = some y := by
  rw [List.reverse_cons]
  simp
theorem drop_rev (y : V) (ws : List V) : (y :: ws).reverse.dropLast = ws.reverse := by
  rw [List.reverse_cons]
  simp
theorem rev_eq {ws us : List V} (h : ws.reverse = us) : ws = us.reverse := by rw [← h, List.reverse_reverse]
theorem take_one {α : Type} {A : List α} {k : Nat} {t : α} (h : A[k]? = some t) : A.take (k + 1) = A.take k ++ [t] := by
  obtain ⟨h1, h2⟩ := List.getElem?_eq_some_iff.mp h
  rw [List.take_succ_eq_append_getElem h1, h2]
section
variable {P : Program} {w : World} {K : PySem.W.Frag} {mg : Str → Option Value} {base : Heap} {f : Addr} {fd : FuncData}
theorem ok_built_up (F : Fun K "built_up" "built_up" s_built_up f fd) (B : NoG mg) : FnOk P w K mg base CX0 3 f fd ["root", "parts_in", "made"] (spBuilt P w K mg base) := by
  refine F.ok sc_built_up (fun vs H Q E h => ?_) (fun cdv A outer s H vs Q E hr h => ?_)
  · obtain ⟨D, S, t, v, fp, fm, dp, dm, np, nm, rfl, _⟩ := h
    rfl
  obtain ⟨D, S, t, v, fp, fm, dp, dm, np, nm, rfl, FP, kp, bp, FM, km, bm, hSo, hval, hsz, q⟩ := h
  have nd := sc_built_up.nd
  have hu := hr.units0
  have z1 : (1 : Nat) ≤ sizeLine := by decide
  have z2 : (2 : Nat) ≤ sizeLine := by decide
  have z3 : (400000 : Nat) + 400000 < sizeLine := by decide
  refine ⟨_, (pss_cons (ps_set (i := 3) nd rfl (Or.inl rfl) (pe_lst pa_nil))
      (pss_cons (ps_set (i := 4) nd rfl (Or.inl rfl) (pe_lst (pa_cons (pv 0) pa_nil)))
      (pss_cons (ps_while PassesOwn.never (k_truth (K := K) (pv 4) (fun _ => rfl)) (pss_cons (ps_set (i := 5) nd rfl (Or.inl rfl) (k_bm0 (K := K) PySem.F.plainAttrs_list PySem.F.slot_list_pop PySem.F.type_list_pop mt_pop (pv 4)))
      (pss_cons (ps_set (i := 6) nd rfl (Or.inl rfl) (pe_callV (P := P) (w := w) (K := K) (mg := mg) (base := base) (pv 1) pass0 (pa_cons (pv 5) pa_nil)))
      (pss_cons (ps_expr (k_bm (K := K) PySem.F.plainAttrs_list PySem.F.slot_list_append PySem.F.type_list_append mt_append (pv 3) (pa_cons (pe_tup (pa_cons (pv 5) (pa_cons (pe_callB (k_len (K := K)) rfl B.len_ bt_len (pa_cons (pv 6) pa_nil)) pa_nil))) pa_nil)))
      (pss_one (ps_expr (k_bm (K := K) PySem.F.plainAttrs_list PySem.F.slot_list_extend PySem.F.type_list_extend mt_extend (pv 4) (pa_cons (pe_listRev (K := K) rfl B.reversed_ rfl B.list_ rfl (pa_cons (pv 6) pa_nil)) pa_nil))))))))
      (pss_cons (ps_set (i := 7) nd rfl (Or.inr rfl) (pe_lst pa_nil))
      (pss_cons (ps_for PassesOwn.never rfl (pi_rev (K := K) rfl B.reversed_ (pa_cons (pv 3) pa_nil)) (pg_tup rfl (pgs_cons (pg_name (i := 5) nd rfl (Or.inl rfl)) (pgs_cons (pg_name (i := 8) nd rfl (Or.inl rfl)) pgs_nil))) (pss_cons (ps_setComp (i := 9) nd rfl rfl (CompScope.mk (N := ["root", "parts_in", "made", "met", "waiting", "node", "parts", "done", "many", "made_parts"]) (sc := defScope s_built_up) (caps := [7]) (ns := ["done"]) (by decide +kernel) rfl (by decide +kernel) rfl (by decide +kernel) rfl (by decide +kernel) (by decide +kernel)) rfl rfl rfl (pi_range1 rfl B.range_ (pa_cons (pv 8) pa_nil)) (fun _ _ _ _ _ => pts_nil) (fun _ _ _ _ _ => (k_bm0 (K := K) PySem.F.plainAttrs_list PySem.F.slot_list_pop PySem.F.type_list_pop mt_pop (pv 1))))
      (pss_one (ps_expr (k_bm (K := K) PySem.F.plainAttrs_list PySem.F.slot_list_append PySem.F.type_list_append mt_append (pv 7) (pa_cons (pe_callV (P := P) (w := w) (K := K) (mg := mg) (base := base) (pv 2) pass0 (pa_cons (pv 5) (pa_cons (pv 9) pa_nil))) pa_nil))))))
      (pss_one (ps_ret (k_bm0 (K := K) PySem.F.plainAttrs_list PySem.F.slot_list_pop PySem.F.type_list_pop mt_pop (pv 7))))))))), ?_⟩
  refine ⟨(by show 0 ≤ sizeLine; decide), fun ml hml => ?_⟩
  refine ⟨_, rfl, z1, fun wl hwl0 => ?_⟩
  obtain ⟨hwl, nwm⟩ := upd_none hwl0
  have g0 : Same H (upd (upd H ml (.lst [])) wl (.lst [v])) := (same_new hml _).trans (same_new hwl0 _)
  obtain ⟨S1, w1, hS1, mS, wS, sub1⟩ : ∃ S1 : AS, Wd H S S1 ∧ (∀ H' : Hp, Same H H' → H' ml ≠ none → H' wl ≠ none → ∀ a, S1 a → H' a ≠ none) ∧ S1 ml ∧ S1 wl ∧ ∀ a, S a → S1 a := by
    refine ⟨fun a => S a ∨ a = ml ∨ a = wl, fun a ha => ?_, fun H' sm h1 h2 a ha => ?_, .inr (.inl rfl), .inr (.inr rfl), fun a h => .inl h⟩
    · rcases ha with h | rfl | rfl
      · exact .inl h
      · exact .inr hml
      · exact .inr hwl
    · rcases ha with h | rfl | rfl
      · obtain ⟨o, ho⟩ := Option.ne_none_iff_exists'.mp (hSo a h)
        rw [sm _ _ ho]; exact fun z => nomatch z
      · exact h1
      · exact h2
  have hval1 := D.vw w1 hval
  refine ⟨fun m σ H' => ∃ (N W : List D.T) (ms ws : List V) (y1 y2 : Option V), σ = [some v, some (.ref fp), some (.ref fm), some (.ref ml), some (.ref wl), y1, y2, none, none, none] ∧ Same H H' ∧ H' ml = some (.lst ms) ∧ H' wl = some (.lst ws) ∧
      All2 (MetAt D S1 H') N ms ∧ All2 (D.val S1 H') W ws.reverse ∧ Reach D t N W ∧ m = (W.map D.size).sum,
    ⟨D.size t, [], [t], [], [v], none, none, rfl, g0, upd_at upd_same (Ne.symm nwm), upd_same, .nil, .cons (D.vm (.of g0) hval1) .nil, .start, by simp⟩, ?_⟩
  rintro m σ H' ⟨N, W, ms, ws, y1, y2, rfl, sm, hm, hw, hN, hW, hR, rfl⟩
  have hms := hN.len
  have hRs := hR.size
  refine ⟨_, rfl, !ws.isEmpty, .inl ⟨ws, SqL.of hw, rfl⟩, ?_⟩
  generalize ew : ws.reverse = wr at hW
  have ew := rev_eq ew
  subst ew
  cases hW with
  | @cons n u W' wr hn hW' =>
    refine ifT (by simp) ?_
    refine ⟨_, fun _ _ h => h, ?_⟩
    -- node = waiting.pop()
    refine ⟨_, rfl, .inl ⟨rfl, _, SqL.of hw⟩, wl, _, _, rfl, rfl, hw, last_rev _ _, ?_⟩
    rw [drop_rev]
    have t1 : Kp S1 H' (upd H' wl (.lst wr.reverse)) := .upd wS hw _
    have hm1 : upd H' wl (.lst wr.reverse) ml = some (.lst ms) := upd_at hm (Ne.symm nwm)
    have hw1 : upd H' wl (.lst wr.reverse) wl = some (.lst wr.reverse) := upd_same
    have o1 : Same H (upd H' wl (.lst wr.reverse)) := fun b o e => upd_at (sm b o e) (ne_of_none e hwl)
    generalize upd H' wl (.lst wr.reverse) = H1 at t1 hm1 hw1 o1 ⊢
    have hkn := D.kids_le n
    have hszn : D.size n ≤ 400000 := by simp only [List.map_cons, List.sum_cons] at hRs; omega
    -- parts = parts_in(node)
    refine ⟨_, rfl, fp, dp, np, spP D, 2, rfl, FP, hr.mono (by decide), kp, bp, _, rfl, S1, n, u, rfl, D.vm t1 hn, hszn, fun r H2 ps s2 hr1 hr2 hps => ?_⟩
    have hm2 := s2 _ _ hm1
    have hw2 := s2 _ _ hw1
    have o2 := o1.trans s2
    have t2 : Kp S1 H' H2 := t1.trans (.of s2)
    have nrw : r ≠ wl := fun e => by subst e; rw [hw1] at hr1; cases hr1
    have nrm : r ≠ ml := fun e => by subst e; rw [hm1] at hr1; cases hr1
    have hpl := hps.len
    -- met.append((node, len(parts)))
    refine ⟨_, rfl, .inl ⟨rfl, _, SqL.of hm2⟩, _, rfl, _, rfl, _, _, rfl, .inl ⟨_, SqL.of hr2, rfl⟩, z2, fun p hp => ?_⟩
    have s3 : Same H2 (upd H2 p (.tup [u, .int (ps.length : Nat)])) := same_new hp _
    refine ⟨ml, _, _, rfl, rfl, s3 _ _ hm2, by omega, ?_⟩
    have t4 : Kp S1 H' (upd (upd H2 p (.tup [u, .int (ps.length : Nat)])) ml (.lst (ms ++ [.ref p]))) := (t2.trans (.of s3)).trans (.upd mS (s3 _ _ hm2) _)
    have hp4 : upd (upd H2 p (.tup [u, .int (ps.length : Nat)])) ml (.lst (ms ++ [.ref p])) p = some (.tup [u, .int (ps.length : Nat)]) := upd_at upd_same (fun e => by subst e; rw [hm2] at hp; cases hp)
    have hm4 : upd (upd H2 p (.tup [u, .int (ps.length : Nat)])) ml (.lst (ms ++ [.ref p])) ml = some (.lst (ms ++ [.ref p])) := upd_same
    have hw4 : upd (upd H2 p (.tup [u, .int (ps.length : Nat)])) ml (.lst (ms ++ [.ref p])) wl = some (.lst wr.reverse) := upd_at (s3 _ _ hw2) nwm
    have hr4 : upd (upd H2 p (.tup [u, .int (ps.length : Nat)])) ml (.lst (ms ++ [.ref p])) r = some (.lst ps) := upd_at (s3 _ _ hr2) nrm
    have o4 : Same H (upd (upd H2 p (.tup [u, .int (ps.length : Nat)])) ml (.lst (ms ++ [.ref p]))) := fun b o e => upd_at (s3 _ _ (o2 b o e)) (ne_of_none e hml)
    have t24 : Kp S1 H2 (upd (upd H2 p (.tup [u, .int (ps.length : Nat)])) ml (.lst (ms ++ [.ref p]))) := (Kp.of s3).trans (.upd mS (s3 _ _ hm2) _)
    generalize upd (upd H2 p (.tup [u, .int (ps.length : Nat)])) ml (.lst (ms ++ [.ref p])) = H4 at t4 hp4 hm4 hw4 hr4 o4 t24 ⊢
    -- waiting.extend(list(reversed(parts)))
    refine ⟨_, rfl, .inl ⟨rfl, _, SqL.of hw4⟩, _, rfl, r, ps, rfl, SqL.of hr4, fun r2 hr2' => ?_⟩
    have s5 : Same H4 (upd H4 r2 (.lst ps.reverse)) := same_new hr2' _
    have hWl := D.len_le W'
    have hWe := hW'.len
    refine ⟨wl, r2, _, _, rfl, rfl, s5 _ _ hw4, upd_same, ?_, ?_⟩
    · simp only [List.length_reverse]
      simp only [List.map_cons, List.sum_cons] at hRs
      omega
    have t6 : Kp S1 H4 (upd (upd H4 r2 (.lst ps.reverse)) wl (.lst (wr.reverse ++ ps.reverse))) := (Kp.of s5).trans (.upd wS (s5 _ _ hw4) _)
    refine ⟨_, ?_, N ++ [n], D.kids n ++ W', ms ++ [.ref p], wr.reverse ++ ps.reverse, _, _, rfl, fun b o e => upd_at (s5 _ _ (o4 b o e)) (ne_of_none e hwl), upd_at (s5 _ _ hm4) (Ne.symm nwm), upd_same, ?_, ?_, .step hR, rfl⟩
    · simp only [List.map_append, List.sum_append, List.map_cons, List.sum_cons]
      have := D.hsz n
      omega
    · refine (hN.imp fun a b h => h.mono (t4.trans t6)).app (.cons ⟨p, u, rfl, ?_, D.vm (t4.trans t6) hn⟩ .nil)
      rw [hpl]
      exact t6.tups hp4
    · rw [List.reverse_append, List.reverse_reverse, List.reverse_reverse]
      exact (hps.imp fun a b h => D.vm (t24.trans t6) h).app (hW'.imp fun a b h => D.vm (t4.trans t6) h)
  | nil =>
    refine ifF (by simp) ?_
    -- done = []
    refine ⟨(by show 0 ≤ sizeLine; decide), fun dl hdl => ?_⟩
    have s7 : Same H' (upd H' dl (.lst [])) := same_new hdl _
    have hdl0 : H dl = none := sm.free hdl
    have ndm : dl ≠ ml := fun e => by subst e; rw [hm] at hdl; cases hdl
    have hm' : H' ml ≠ none := by rw [hm]; exact fun z => nomatch z
    have hw' : H' wl ≠ none := by rw [hw]; exact fun z => nomatch z
    have ndw : dl ≠ wl := fun e => by subst e; rw [hw] at hdl; cases hdl
    obtain ⟨S2, w2, hS2, dS, sub2⟩ : ∃ S2 : AS, Wd H' S1 S2 ∧ (∀ H2 : Hp, Same H H2 → H2 ml ≠ none → H2 wl ≠ none → H2 dl ≠ none → ∀ a, S2 a → H2 a ≠ none) ∧ S2 dl ∧ ∀ a, S a → S2 a := by
      refine ⟨fun a => S1 a ∨ a = dl, fun a ha => ?_, fun H2 sm2 h1 h2 h3 a ha => ?_, .inr rfl, fun a h => .inl (sub1 a h)⟩
      · rcases ha with h | rfl
        · exact .inl h
        · exact .inr hdl
      · rcases ha with h | rfl
        · exact hS1 H2 sm2 h1 h2 a h
        · exact h3
    have hN2 := hN.imp fun a b h => h.wide w2
    refine ⟨_, rfl, ml, ms, rfl, SqL.of (s7 _ _ hm), for_rev (xs := ms) (fun i σ H' => ∃ (W : List D.T) (us : List V) (y1 y2 y3 y4 : Option V), σ = [some v, some (.ref fp), some (.ref fm), some (.ref ml), some (.ref wl), y1, y2, some (.ref dl), y3, y4] ∧ Same H H' ∧ H' ml = some (.lst ms) ∧ H' wl ≠ none ∧
      All2 (MetAt D S2 H') N ms ∧ H' dl = some (.lst us.reverse) ∧ All2 (D.res S2 H') W us ∧ Reach D t (N.take (N.length - i)) W) ?_ ?_ ?_ ?_⟩
    · exact ⟨[], [], _, _, _, _, rfl, sm.trans s7, s7 _ _ hm, (by rw [s7 _ _ hw]; exact fun z => nomatch z), hN2.imp fun a b h => h.mono (.of s7), upd_same, .nil, by rw [Nat.sub_zero, List.take_length]; exact hR⟩
    · rintro i σ H' _ ⟨W, us, y1, y2, y3, y4, rfl, sm, hm, _⟩
      exact SqL.of hm
    · rintro i x σ H' hx ⟨W, us, y1, y2, y3, y4, rfl, sm, hm, hwn, hN, hd, hW, hRi⟩
      have hi : i < ms.length := by
        have := (List.getElem?_eq_some_iff.mp hx).1
        simpa using this
      rw [List.getElem?_reverse hi] at hx
      obtain ⟨n, hn, p, u, rfl, hp, hu'⟩ := hN.get hx
      have e1 : N.length - i = (ms.length - 1 - i) + 1 := by omega
      rw [e1, take_one hn] at hRi
      obtain ⟨r, rfl, hRb⟩ := hRi.back
      obtain ⟨b1, b2, rfl, hb1, hb2⟩ := hW.split
      have hbl := hb1.len
      have hkn := D.kids_le n
      have hRs2 := hRb.size
      have hszn : D.size n ≤ 400000 := by simp only [List.map_cons, List.sum_cons] at hRs2; omega
      refine ⟨p, _, rfl, SqT.of hp, rfl, _, _, rfl, _, _, rfl, rfl, ?_⟩
      -- made_parts = [done.pop() for part in range(many)]
      refine ⟨_, rfl, ((D.kids n).length : Nat), rfl, by omega, by omega, comp_range (n := (D.kids n).length) (fun j ys H2 => ys = b1.take j ∧ H2 = upd H' dl (.lst (b1.drop j ++ b2).reverse)) ?_ ?_ ?_ ?_⟩
      · exact ⟨rfl, by rw [List.drop_zero]; exact (upd_id hd).symm⟩
      · rintro j ys H2 hj ⟨rfl, _⟩
        rw [List.length_take]
        omega
      · rintro j ys H2 hj ⟨rfl, rfl⟩
        refine noTest ?_
        have hjb : j < b1.length := by omega
        have ed : b1.drop j = b1[j] :: b1.drop (j + 1) := List.drop_eq_getElem_cons hjb
        rw [ed]
        refine ⟨_, rfl, .inl ⟨rfl, _, SqL.of upd_same⟩, dl, _, _, rfl, rfl, upd_same, last_rev _ _, ?_⟩
        refine ⟨?_, ?_⟩
        · rw [List.take_succ_eq_append_getElem hjb]
        · rw [upd_upd]
          congr 2
          exact drop_rev _ _
      · rintro ys H2 ⟨rfl, rfl⟩ l hl
        rw [hbl, List.drop_length, List.take_length, List.nil_append] at *
        have s8 : Same (upd H' dl (.lst b2.reverse)) (upd (upd H' dl (.lst b2.reverse)) l (.lst b1)) := same_new hl _
        have t8 : Kp S2 H' (upd (upd H' dl (.lst b2.reverse)) l (.lst b1)) := (Kp.upd dS hd _).trans (.of s8)
        have wn8 : upd (upd H' dl (.lst b2.reverse)) l (.lst b1) wl ≠ none := by
          obtain ⟨o, ho⟩ := Option.ne_none_iff_exists'.mp hwn
          rw [s8 _ _ (upd_at ho (Ne.symm ndw))]; exact fun z => nomatch z
        have hd8 : upd (upd H' dl (.lst b2.reverse)) l (.lst b1) dl = some (.lst b2.reverse) := s8 _ _ upd_same
        have hl8 : upd (upd H' dl (.lst b2.reverse)) l (.lst b1) l = some (.lst b1) := upd_same
        have hm8 : upd (upd H' dl (.lst b2.reverse)) l (.lst b1) ml = some (.lst ms) := s8 _ _ (upd_at hm (Ne.symm ndm))
        have o8 : Same H (upd (upd H' dl (.lst b2.reverse)) l (.lst b1)) := fun b o e => s8 _ _ (upd_at (sm b o e) (ne_of_none e hdl0))
        have hS8 := hS2 _ o8 (by rw [hm8]; exact fun z => nomatch z) wn8 (by rw [hd8]; exact fun z => nomatch z)
        have nlS : ¬ S2 l := fun z => by
          refine hS2 _ (fun b o e => upd_at (sm b o e) (ne_of_none e hdl0)) ?_ ?_ (by rw [upd_same]; exact fun z => nomatch z) l z hl
          · rw [upd_at hm (Ne.symm ndm)]; exact fun z => nomatch z
          · obtain ⟨o, ho⟩ := Option.ne_none_iff_exists'.mp hwn
            rw [upd_at ho (Ne.symm ndw)]; exact fun z => nomatch z
        generalize upd (upd H' dl (.lst b2.reverse)) l (.lst b1) = H8 at s8 t8 hd8 hl8 hm8 o8 wn8 hS8 ⊢
        -- done.append(made(node, made_parts))
        refine ⟨_, rfl, .inl ⟨rfl, _, SqL.of hd8⟩, _, rfl, fm, dm, nm, spM D, 2, rfl, FM, hr.mono (by decide), km, bm, _, rfl, _, rfl, S2, n, u, l, b1, rfl, D.vm t8 hu', hszn, hl8, nlS, hS8, hb1.imp fun a b h => D.rm t8 h, fun y H9 s9 hy => ?_⟩
        have hb2l := hb2.len
        have hrl := D.len_le r
        refine ⟨dl, _, _, rfl, rfl, s9 _ _ hd8, ?_, ?_⟩
        · rw [List.length_reverse]
          simp only [List.map_cons, List.sum_cons] at hRs2
          omega
        have t9 : Kp S2 H9 (upd H9 dl (.lst (b2.reverse ++ [y]))) := .upd dS (s9 _ _ hd8) _
        have t89 : Kp S2 H' (upd H9 dl (.lst (b2.reverse ++ [y]))) := (t8.trans (.of s9)).trans t9
        have wn9 : upd H9 dl (.lst (b2.reverse ++ [y])) wl ≠ none := by
          obtain ⟨o, ho⟩ := Option.ne_none_iff_exists'.mp wn8
          rw [upd_at (s9 _ _ ho) (Ne.symm ndw)]; exact fun z => nomatch z
        refine ⟨n :: r, y :: b2, _, _, _, _, rfl, fun b o e => upd_at (s9 _ _ (o8 b o e)) (ne_of_none e hdl0), upd_at (s9 _ _ hm8) (Ne.symm ndm), wn9, hN.imp fun a b h => h.mono t89, ?_, .cons (D.rm t9 hy) (hb2.imp fun a b h => D.rm t89 h), ?_⟩
        · rw [List.reverse_cons]; exact upd_same
        · have e2 : N.length - (i + 1) = ms.length - 1 - i := by omega
          rw [e2]; exact hRb
    · rintro σ H' ⟨W, us, y1, y2, y3, y4, rfl, sm, hm, hwn, hN, hd, hW, hRi⟩
      rw [← hms, Nat.sub_self, List.take_zero] at hRi
      cases hRi.first
      cases hW with
      | @cons _ y _ us hy hrest =>
        cases hrest
        refine ⟨_, rfl, .inl ⟨rfl, _, SqL.of hd⟩, dl, _, _, rfl, rfl, hd, rfl, ?_⟩
        exact q y _ (fun b o e => upd_at (sm b o e) (ne_of_none e hdl0)) (D.rw' (fun a ha => .inl (sub2 a ha)) (D.rm (.upd dS hd _) hy))
end
end BV
/-! reckoning of terms whose names are whole numbers: states, what leads on, and how they lie on the heap -/
namespace RK
open PySem L2 BV
inductive Tm | num (n : Int) | name (z : Str) | fn (z : Str) (b : Tm) | two (s : Str) (a b : Tm) | ite (c a b : Tm) | let_ (z : Str) (a b : Tm) | do_ (f a : Tm) | call (z : Str) (a : Tm)
abbrev En := List (Str × Int)
inductive Vl | int (n : Int) | bl (b : Bool) | fn (z : Str) (b : Tm) (e : En)
inductive Fr | two (s : Str) (t : Tm) (e : En) | then_ (s : Str) (n : Int) | ite (a b : Tm) (e : En) | let_ (z : Str) (b : Tm) (e : En) | do_ (a : Tm) (e : En) | with_ (z : Str) (b : Tm) (e : En) | call (z : Str) (e : En) | back
inductive Fo | term (t : Tm) (e : En) | val (v : Vl)
structure Sta where
  fo : Fo
  pile : List Fr
  calls : Int
  deep : Int
inductive Res | st (s : Sta) | dry | deep | value (n : Int)
structure Dn where
  name : Str
  par : Str
  body : Tm
def look (z : Str) : En → Option Int
  | [] => none
  | (y, n) :: r => match look z r with
    | some m => some m
    | none => if y = z then some n else none
def into (most : Int) (b : Tm) (e : En) (r : List Fr) (calls deep : Int) : Res :=
  if most ≤ calls then .dry else if 60 ≤ deep then .deep else .st ⟨.term b e, .back :: r, calls + 1, deep + 1⟩
def great : Int := 10000000000000000000000000000000000000000
def told (s : Str) (a b : Int) : Option Vl :=
  if s = "<" then some (.bl (decide (a < b))) else if s = "+" then (if a + b ≤ great ∧ -great ≤ a + b then some (.int (a + b)) else none) else if s = "-" then (if a - b ≤ great ∧ -great ≤ a - b then some (.int (a - b)) else none) else none
def step (P : List Dn) (most : Int) (s : Sta) : Option Res := match s.fo with
  | .term (.num n) _ => some (.st ⟨.val (.int n), s.pile, s.calls, s.deep⟩)
  | .term (.name z) e => (look z e).map fun n => .st ⟨.val (.int n), s.pile, s.calls, s.deep⟩
  | .term (.fn z b) e => some (.st ⟨.val (.fn z b e), s.pile, s.calls, s.deep⟩)
  | .term (.two g a b) e => some (.st ⟨.term a e, .two g b e :: s.pile, s.calls, s.deep⟩)
  | .term (.ite c a b) e => some (.st ⟨.term c e, .ite a b e :: s.pile, s.calls, s.deep⟩)
  | .term (.let_ z a b) e => some (.st ⟨.term a e, .let_ z b e :: s.pile, s.calls, s.deep⟩)
  | .term (.do_ f a) e => some (.st ⟨.term f e, .do_ a e :: s.pile, s.calls, s.deep⟩)
  | .term (.call z a) e => some (.st ⟨.term a e, .call z e :: s.pile, s.calls, s.deep⟩)
  | .val v => match s.pile, v with
    | [], .int n => some (.value n)
    | .back :: r, v => some (.st ⟨.val v, r, s.calls, s.deep - 1⟩)
    | .then_ g n :: r, .int m => (told g n m).map fun v => .st ⟨.val v, r, s.calls, s.deep⟩
    | .with_ z b e :: r, .int m => some (into most b (e ++ [(z, m)]) r s.calls s.deep)
    | .call z _ :: r, .int m => (P.find? fun d => d.name == z).map fun d => into most d.body [(d.par, m)] r s.calls s.deep
    | .ite a b e :: r, .bl c => some (.st ⟨.term (if c then a else b) e, r, s.calls, s.deep⟩)
    | .let_ z b e :: r, .int m => some (.st ⟨.term b (e ++ [(z, m)]), r, s.calls, s.deep⟩)
    | .two g t e :: r, .int m => some (.st ⟨.term t e, .then_ g m :: r, s.calls, s.deep⟩)
    | .do_ t e :: r, .fn z b e' => some (.st ⟨.term t e, .with_ z b e' :: r, s.calls, s.deep⟩)
    | _, _ => none
/-! on the heap -/
def TmAt (H : Hp) : Tm → V → Prop
  | .num n, v => ∃ p, v = .ref p ∧ H p = some (.tup [.str "number", .int n])
  | .name z, v => ∃ p, v = .ref p ∧ H p = some (.tup [.str "name", .str z])
  | .fn z b, v => ∃ p u, v = .ref p ∧ H p = some (.tup [.str "fn", .str z, u]) ∧ TmAt H b u
  | .two s a b, v => ∃ p u w, v = .ref p ∧ H p = some (.tup [.str "two", .str s, u, w]) ∧ TmAt H a u ∧ TmAt H b w
  | .ite c a b, v => ∃ p t u w, v = .ref p ∧ H p = some (.tup [.str "if", t, u, w]) ∧ TmAt H c t ∧ TmAt H a u ∧ TmAt H b w
  | .let_ z a b, v => ∃ p u w, v = .ref p ∧ H p = some (.tup [.str "let", .str z, u, w]) ∧ TmAt H a u ∧ TmAt H b w
  | .do_ f a, v => ∃ p u w, v = .ref p ∧ H p = some (.tup [.str "do", u, w]) ∧ TmAt H f u ∧ TmAt H a w
  | .call z a, v => ∃ p q u, v = .ref p ∧ H p = some (.tup [.str "call", .str z, .ref q]) ∧ H q = some (.tup [u]) ∧ TmAt H a u
abbrev Mo (H H' : Hp) : Prop := ∀ b xs, H b = some (.tup xs) → H' b = some (.tup xs)
theorem TmAt.mono {H H' : Hp} (m : Mo H H') : ∀ (t : Tm) (v : V), TmAt H t v → TmAt H' t v
  | .num n, v, ⟨p, e, h⟩ => ⟨p, e, m _ _ h⟩
  | .name z, v, ⟨p, e, h⟩ => ⟨p, e, m _ _ h⟩
  | .fn z b, v, ⟨p, u, e, h, a⟩ => ⟨p, u, e, m _ _ h, TmAt.mono m b u a⟩
  | .two s a b, v, ⟨p, u, w, e, h, x, y⟩ => ⟨p, u, w, e, m _ _ h, TmAt.mono m a u x, TmAt.mono m b w y⟩
  | .ite c a b, v, ⟨p, t, u, w, e, h, x, y, z⟩ => ⟨p, t, u, w, e, m _ _ h, TmAt.mono m c t x, TmAt.mono m a u y, TmAt.mono m b w z⟩
  | .let_ s a b, v, ⟨p, u, w, e, h, x, y⟩ => ⟨p, u, w, e, m _ _ h, TmAt.mono m a u x, TmAt.mono m b w y⟩
  | .do_ a b, v, ⟨p, u, w, e, h, x, y⟩ => ⟨p, u, w, e, m _ _ h, TmAt.mono m a u x, TmAt.mono m b w y⟩
  | .call z a, v, ⟨p, q, u, e, h, g, x⟩ => ⟨p, q, u, e, m _ _ h, m _ _ g, TmAt.mono m a u x⟩
def PrAt1 (H : Hp) (x : Str × Int) (u : V) : Prop := ∃ q, u = .ref q ∧ H q = some (.tup [.str x.1, .int x.2])
theorem PrAt1.mono {H H' : Hp} (m : Mo H H') {x : Str × Int} {u : V} (h : PrAt1 H x u) : PrAt1 H' x u := let ⟨q, e, h⟩ := h; ⟨q, e, m _ _ h⟩
def EnAt (H : Hp) (e : En) (v : V) : Prop := ∃ p us, v = .ref p ∧ H p = some (.tup us) ∧ All2 (PrAt1 H) e us
theorem EnAt.mono {H H' : Hp} (m : Mo H H') {e : En} {v : V} (h : EnAt H e v) : EnAt H' e v := let ⟨p, us, e, h, a⟩ := h; ⟨p, us, e, m _ _ h, a.imp fun _ _ x => x.mono m⟩
def VlAt (H : Hp) : Vl → V → Prop
  | .int n, v => v = .int n
  | .bl b, v => v = .bl b
  | .fn z b e, v => ∃ p t w, v = .ref p ∧ H p = some (.tup [.str "fn", .str z, t, w]) ∧ TmAt H b t ∧ EnAt H e w
theorem VlAt.mono {H H' : Hp} (m : Mo H H') : ∀ (x : Vl) (v : V), VlAt H x v → VlAt H' x v
  | .int _, _, h => h
  | .bl _, _, h => h
  | .fn z b e, v, ⟨p, t, w, q, h, x, y⟩ => ⟨p, t, w, q, m _ _ h, TmAt.mono m _ _ x, y.mono m⟩
def FrAt (H : Hp) : Fr → V → Prop
  | .two s t e, v => ∃ p u w, v = .ref p ∧ H p = some (.tup [.str "two", .str s, u, w]) ∧ TmAt H t u ∧ EnAt H e w
  | .then_ s n, v => ∃ p, v = .ref p ∧ H p = some (.tup [.str "then", .str s, .int n])
  | .ite a b e, v => ∃ p t u w, v = .ref p ∧ H p = some (.tup [.str "if", t, u, w]) ∧ TmAt H a t ∧ TmAt H b u ∧ EnAt H e w
  | .let_ z b e, v => ∃ p u w, v = .ref p ∧ H p = some (.tup [.str "let", .str z, u, w]) ∧ TmAt H b u ∧ EnAt H e w
  | .do_ a e, v => ∃ p u w, v = .ref p ∧ H p = some (.tup [.str "do", u, w]) ∧ TmAt H a u ∧ EnAt H e w
  | .with_ z b e, v => ∃ p u, v = .ref p ∧ H p = some (.tup [.str "with", u]) ∧ VlAt H (.fn z b e) u
  | .call z e, v => ∃ p q r w, v = .ref p ∧ H p = some (.tup [.str "call", .str z, .ref q, .ref r, w]) ∧ H q = some (.tup []) ∧ H r = some (.tup []) ∧ EnAt H e w
  | .back, v => ∃ p, v = .ref p ∧ H p = some (.tup [.str "back"])
theorem FrAt.mono {H H' : Hp} (m : Mo H H') : ∀ (x : Fr) (v : V), FrAt H x v → FrAt H' x v
  | .two s t e, v, ⟨p, u, w, q, h, x, y⟩ => ⟨p, u, w, q, m _ _ h, TmAt.mono m _ _ x, y.mono m⟩
  | .then_ s n, v, ⟨p, q, h⟩ => ⟨p, q, m _ _ h⟩
  | .ite a b e, v, ⟨p, t, u, w, q, h, x, y, z⟩ => ⟨p, t, u, w, q, m _ _ h, TmAt.mono m _ _ x, TmAt.mono m _ _ y, z.mono m⟩
  | .let_ z b e, v, ⟨p, u, w, q, h, x, y⟩ => ⟨p, u, w, q, m _ _ h, TmAt.mono m _ _ x, y.mono m⟩
  | .do_ a e, v, ⟨p, u, w, q, h, x, y⟩ => ⟨p, u, w, q, m _ _ h, TmAt.mono m _ _ x, y.mono m⟩
  | .with_ z b e, v, ⟨p, u, q, h, x⟩ => ⟨p, u, q, m _ _ h, VlAt.mono m _ _ x⟩
  | .call z e, v, ⟨p, q, r, w, i, h, g, k, x⟩ => ⟨p, q, r, w, i, m _ _ h, m _ _ g, m _ _ k, x.mono m⟩
  | .back, v, ⟨p, q, h⟩ => ⟨p, q, m _ _ h⟩
def FoAt (H : Hp) : Fo → V → Prop
  | .term t e, v => ∃ p u w, v = .ref p ∧ H p = some (.tup [.str "term", u, w]) ∧ TmAt H t u ∧ EnAt H e w
  | .val x, v => ∃ p u, v = .ref p ∧ H p = some (.tup [.str "value", u]) ∧ VlAt H x u
theorem FoAt.mono {H H' : Hp} (m : Mo H H') : ∀ (x : Fo) (v : V), FoAt H x v → FoAt H' x v
  | .term t e, v, ⟨p, u, w, q, h, x, y⟩ => ⟨p, u, w, q, m _ _ h, TmAt.mono m _ _ x, y.mono m⟩
  | .val x, v, ⟨p, u, q, h, y⟩ => ⟨p, u, q, m _ _ h, VlAt.mono m _ _ y⟩
/-- a pile: the top last -/
def PiAt (H : Hp) (fs : List Fr) (v : V) : Prop := ∃ p us, v = .ref p ∧ H p = some (.tup us) ∧ All2 (FrAt H) fs.reverse us
theorem PiAt.mono {H H' : Hp} (m : Mo H H') {fs : List Fr} {v : V} (h : PiAt H fs v) : PiAt H' fs v := let ⟨p, us, e, h, a⟩ := h; ⟨p, us, e, m _ _ h, a.imp fun _ _ x => FrAt.mono m _ _ x⟩
def StAt (H : Hp) (s : Sta) (v : V) : Prop := ∃ p f l, v = .ref p ∧ H p = some (.tup [f, l, .int s.calls, .int s.deep]) ∧ FoAt H s.fo f ∧ PiAt H s.pile l
def ReAt (H : Hp) : Res → V → Prop
  | .st s, v => StAt H s v
  | .dry, v => ∃ p, v = .ref p ∧ H p = some (.tup [.str "dry"])
  | .deep, v => ∃ p, v = .ref p ∧ H p = some (.tup [.str "deep"])
  | .value n, v => ∃ p, v = .ref p ∧ H p = some (.tup [.str "value", .int n])
def DnAt (H : Hp) (d : Dn) (v : V) : Prop := ∃ p q t, v = .ref p ∧ H p = some (.tup [.str "def", .str d.name, .ref q, t]) ∧ H q = some (.tup [.str d.par]) ∧ TmAt H d.body t
theorem DnAt.mono {H H' : Hp} (m : Mo H H') {d : Dn} {v : V} (h : DnAt H d v) : DnAt H' d v := let ⟨p, q, t, e, h, g, x⟩ := h; ⟨p, q, t, e, m _ _ h, m _ _ g, TmAt.mono m _ _ x⟩
def PgAt (H : Hp) (P : List Dn) (v : V) : Prop := ∃ p us, v = .ref p ∧ H p = some (.tup us) ∧ All2 (DnAt H) P us
theorem PgAt.mono {H H' : Hp} (m : Mo H H') {P : List Dn} {v : V} (h : PgAt H P v) : PgAt H' P v := let ⟨p, us, e, h, a⟩ := h; ⟨p, us, e, m _ _ h, a.imp fun _ _ x => x.mono m⟩
end RK
set_option maxHeartbeats 4000000
namespace RK
open PySem L2 BV
seal PE PT PW PA PS PSs PTs PI PG PGs PO
abbrev s_into_body : Stmt := BV.top 30
abbrev s_bound_to : Stmt := BV.top 18
abbrev s_function_called : Stmt := BV.top 17
abbrev s_pushed : Stmt := BV.top 27
theorem sc_into_body : FnScope ["body", "bound", "rest", "most", "pile", "calls", "deep"] ["body", "bound", "rest", "most"] (defScope s_into_body) := ⟨rfl, rfl, rfl, by decide +kernel, rfl, by decide +kernel, by decide +kernel⟩
theorem sc_bound_to : FnScope ["names", "values"] ["names", "values"] (defScope s_bound_to) := ⟨rfl, rfl, rfl, by decide +kernel, rfl, by decide +kernel, by decide +kernel⟩
theorem sc_function_called : FnScope ["program", "name"] ["program", "name"] (defScope s_function_called) := ⟨rfl, rfl, rfl, by decide +kernel, rfl, by decide +kernel, by decide +kernel⟩
theorem sc_pushed : FnScope ["focus", "waits", "rest"] ["focus", "waits", "rest"] (defScope s_pushed) := ⟨rfl, rfl, rfl, by decide +kernel, rfl, by decide +kernel, by decide +kernel⟩
theorem tups_of {H H' : Hp} (s : Same H H') : Mo H H' := fun b xs e => s _ _ e
theorem one1 : 1 ≤ sizeLine := by decide
theorem two2 : 2 ≤ sizeLine := by decide
theorem three3 : 3 ≤ sizeLine := by decide
def RsAt (H : Hp) (fs : List Fr) (calls deep : Int) (v : V) : Prop := ∃ p l, v = .ref p ∧ H p = some (.tup [l, .int calls, .int deep]) ∧ PiAt H fs l
theorem RsAt.mono {H H' : Hp} (m : Mo H H') {fs : List Fr} {c d : Int} {v : V} (h : RsAt H fs c d v) : RsAt H' fs c d v := let ⟨p, l, e, h, x⟩ := h; ⟨p, l, e, m _ _ h, x.mono m⟩
theorem push_pile {K : PySem.W.Frag} {H : Hp} {fs : List Fr} {l : V} {fr : Fr} {u : V} {q : Addr} {Q : VK} (h : PiAt H fs l) (hf : FrAt H fr u) (hq : H q = some (.tup [u])) (hz : fs.length ≤ 100000)
    (go : ∀ r H', Same H H' → PiAt H' (fr :: fs) r → Q r H') : rCatT K l (.ref q) H Q ∨ rCatT0 K l (.ref q) H Q := by
  obtain ⟨p, us, rfl, hp, ha⟩ := h
  have zz : (100001 : Nat) ≤ sizeLine := by decide
  have hl := ha.len
  rw [List.length_reverse] at hl
  cases us with
  | nil =>
    refine .inr ⟨p, q, [u], rfl, rfl, SqT.of hp, SqT.of hq, go _ _ (Same.refl _) ⟨q, [u], rfl, hq, ?_⟩⟩
    have : fs = [] := List.eq_nil_of_length_eq_zero hl
    subst this
    exact .cons hf .nil
  | cons x us =>
    refine .inl ⟨p, q, x :: us, [u], rfl, rfl, SqT.of hp, SqT.of hq, List.cons_ne_nil _ _, ?_, fun e => absurd e (List.cons_ne_nil _ _), fun _ r hr => ?_⟩
    · simp only [List.length_cons, List.length_nil] at hl ⊢
      omega
    have s1 := same_new hr (.tup (x :: us ++ [u]))
    refine go _ _ s1 ⟨r, x :: us ++ [u], rfl, upd_same, ?_⟩
    rw [List.reverse_cons]
    exact (ha.imp fun _ _ h => FrAt.mono (tups_of s1) _ _ h).app (.cons (FrAt.mono (tups_of s1) _ _ hf) .nil)
section
variable {P : Program} {w : World} {K : PySem.W.Frag} {mg : Str → Option Value} {base : Heap} {f : Addr} {fd : FuncData}
def spInto : Sp := fun vs H Q _ => ∃ (b : Tm) (e : En) (r : List Fr) (calls deep most : Int) (bv ev rv : V), vs = [bv, ev, rv, .int most] ∧ TmAt H b bv ∧ EnAt H e ev ∧ RsAt H r calls deep rv ∧ r.length ≤ 10000 ∧
  ∀ v H', Same H H' → ReAt H' (into most b e r calls deep) v → Q v H'
theorem ok_into_body {tD : Tok} (m_DEEPEST : mg "DEEPEST" = some (.int 60 tD)) (F : Fun K "into_body" "into_body" s_into_body f fd) : FnOk P w K mg base CX0 1 f fd ["body", "bound", "rest", "most"] spInto := by
  refine F.ok sc_into_body (fun vs H Q E h => ?_) (fun cdv A outer s H vs Q E hr h => ?_)
  · obtain ⟨b, e, r, calls, deep, most, bv, ev, rv, rfl, _⟩ := h
    rfl
  obtain ⟨b, e, r, calls, deep, most, bv, ev, rv, rfl, hb, he, ⟨p, l, rfl, hp, hl⟩, hz, q⟩ := h
  have nd := sc_into_body.nd
  have hu := hr.units0
  have z4 : (4 : Nat) ≤ sizeLine := by decide
  refine ⟨_, (pss_cons (ps_set (i := 4) nd rfl (Or.inl rfl) (pe_ix (kIx (K := K) (w := w)) (pv 2) pe_int (fun _ _ => rfl)))
      (pss_cons (ps_set (i := 5) nd rfl (Or.inl rfl) (pe_ix (kIx (K := K) (w := w)) (pv 2) pe_int (fun _ _ => rfl)))
      (pss_cons (ps_set (i := 6) nd rfl (Or.inl rfl) (pe_ix (kIx (K := K) (w := w)) (pv 2) pe_int (fun _ _ => rfl)))
      (pss_cons (ps_if (pt_cmpR op_ge (pv 5) (pv 3) rfl) (pss_one (ps_ret (pe_tup (pa_cons pe_str pa_nil)))) pss_nil)
      (pss_cons (ps_if (pt_cmpR op_ge (pv 6) (pe_glob (v := .int 60) rfl m_DEEPEST ⟨_, rfl⟩) rfl) (pss_one (ps_ret (pe_tup (pa_cons pe_str pa_nil)))) pss_nil)
      (pss_one (ps_ret (pe_tup (pa_cons (pe_tup (pa_cons pe_str (pa_cons (pv 0) (pa_cons (pv 1) pa_nil)))) (pa_cons (pe_op (kAddT (K := K)) (pv 4) (pe_tup (pa_cons (pe_tup (pa_cons pe_str pa_nil)) pa_nil))) (pa_cons (pe_op (kAddT (K := K)) (pv 5) pe_int) (pa_cons (pe_op (kAddT (K := K)) (pv 6) pe_int) pa_nil)))))))))))), ?_⟩
  refine ⟨_, rfl, .inr (.inl ⟨p, _, 0, _, rfl, rfl, SqT.of hp, rfl, ?_⟩)⟩
  refine ⟨_, rfl, .inr (.inl ⟨p, _, 1, _, rfl, rfl, SqT.of hp, rfl, ?_⟩)⟩
  refine ⟨_, rfl, .inr (.inl ⟨p, _, 2, _, rfl, rfl, SqT.of hp, rfl, ?_⟩)⟩
  unfold into at q
  refine ⟨_, rfl, _, rfl, _, _, rfl, rfl, _, rfl, ite2 (fun c => ?_) (fun c => ?_)⟩
  · refine ⟨one1, fun a ha => q _ _ (same_new ha _) ?_⟩
    rw [if_pos (of_decide_eq_true c)]
    exact ⟨a, rfl, upd_same⟩
  rw [if_neg (fun z => c (decide_eq_true z))] at q
  refine ⟨_, rfl, _, _, rfl, rfl, _, rfl, ite2 (fun c => ?_) (fun c => ?_)⟩
  · refine ⟨one1, fun a ha => q _ _ (same_new ha _) ?_⟩
    rw [if_pos (of_decide_eq_true c)]
    exact ⟨a, rfl, upd_same⟩
  rw [if_neg (fun z => c (decide_eq_true z))] at q
  refine ⟨_, rfl, _, rfl, three3, fun a ha => ?_⟩
  have s1 := same_new ha (.tup [.str "term", bv, ev])
  refine ⟨_, rfl, one1, fun a2 ha2 => ⟨one1, fun a3 ha3 => .inr (push_pile (fr := .back) (hl.mono (tups_of (s1.trans ((same_new ha2 (.tup [.str "back"])).trans (same_new ha3 (.tup [.ref a2])))))) ⟨a2, rfl, (same_new ha3 _) _ _ upd_same⟩ upd_same (by omega) fun pv H4 s4 hp4 => ?_)⟩⟩
  have s14 := (same_new ha2 (.tup [.str "back"])).trans ((same_new ha3 (.tup [.ref a2])).trans s4)
  refine ⟨_, rfl, .inl ⟨_, _, rfl, rfl, _, rfl, .inl ⟨_, _, rfl, rfl, z4, fun a5 ha5 => ?_⟩⟩⟩
  have s5 := same_new ha5 (.tup [.ref a, pv, .int (calls + 1), .int (deep + 1)])
  have sA := s1.trans (s14.trans s5)
  exact q _ _ sA ⟨a5, .ref a, pv, rfl, upd_same, ⟨a, bv, ev, rfl, (s14.trans s5) _ _ upd_same, TmAt.mono (tups_of sA) _ _ hb, he.mono (tups_of sA)⟩, hp4.mono (tups_of s5)⟩
def spBound : Sp := fun vs H Q _ => ∃ (a b : Addr) (z : Str) (n : Int), vs = [.ref a, .ref b] ∧ H a = some (.tup [.str z]) ∧ (H b = some (.tup [.int n]) ∨ H b = some (.lst [.int n])) ∧ ∀ v H', Same H H' → EnAt H' [(z, n)] v → Q v H'
theorem ok_bound_to (F : Fun K "bound_to" "bound_to" s_bound_to f fd) (B : BV.NoG mg) : FnOk P w K mg base CX0 1 f fd ["names", "values"] spBound := by
  refine F.ok sc_bound_to (fun vs H Q E h => ?_) (fun cdv A outer s H vs Q E hr h => ?_)
  · obtain ⟨a, b, z, n, rfl, _⟩ := h
    rfl
  obtain ⟨a, b, z, n, rfl, ha, hb, q⟩ := h
  have nd := sc_bound_to.nd
  refine ⟨_, (pss_one (ps_ret (pe_tupZip (K := K) rfl B.zip_ rfl B.tuple_ rfl (pa_cons (pv 0) (pa_cons (pv 1) pa_nil))))), ?_⟩
  refine ⟨_, rfl, _, rfl, a, b, _, _, rfl, SqT.of ha, hb.imp SqT.of SqL.of, fun p r hp hr => ?_⟩
  have s1 := (same_new hp (.tup [.str z, .int n])).trans (same_new hr (.tup [.ref p]))
  exact q _ _ s1 ⟨r, _, rfl, upd_same, .cons ⟨p, rfl, (same_new hr _) _ _ upd_same⟩ .nil⟩
def spFc : Sp := fun vs H Q _ => ∃ (D : List Dn) (d : Dn) (z : Str) (v : V), vs = [v, .str z] ∧ PgAt H D v ∧ D.length ≤ 1000 ∧ (D.find? fun d => d.name == z) = some d ∧ ∀ u H', Same H H' → DnAt H' d u → Q u H'
theorem ok_function_called (F : Fun K "function_called" "function_called" s_function_called f fd) : FnOk P w K mg base CX0 1 f fd ["program", "name"] spFc := by
  refine F.ok sc_function_called (fun vs H Q E h => ?_) (fun cdv A outer s H vs Q E hr h => ?_)
  · obtain ⟨D, d, z, v, rfl, _⟩ := h
    rfl
  obtain ⟨D, d, z, v, rfl, ⟨p, us, rfl, hp, hD⟩, hz, hd, q⟩ := h
  have nd := sc_function_called.nd
  have hu := hr.units0
  have zz : (1000 : Nat) ≤ sizeLine := by decide
  have hl := hD.len
  refine ⟨_, (pss_one (ps_ret (pe_ix (kIx (K := K) (w := w)) (pe_comp (CompScope.mk (N := ["program", "name"]) (sc := defScope s_function_called) (caps := [1]) (ns := ["name"]) (by decide +kernel) rfl (by decide +kernel) rfl (by decide +kernel) rfl (by decide +kernel) (by decide +kernel)) rfl rfl rfl (k_itup (K := K) (pv 0)) (fun _ _ _ _ _ => (pts_one (pt_cmpR (kEq (K := K) hu) (pe_ix (kIx (K := K) (w := w)) (pv 0) pe_int (fun _ _ => rfl)) (pv 1) rfl))) (fun _ _ _ _ _ => (pv 0))) pe_int (fun _ _ => rfl)))), ?_⟩
  refine ⟨_, rfl, p, rfl, ⟨us, SqT.of hp⟩, comp_tup (xs := us) (fun j ys H' => (∃ vs, ys = vs ∧ vs.length ≤ j ∧ (∀ d, ((D.take j).find? fun d => d.name == z) = some d → ∃ u rest, vs = u :: rest ∧ DnAt H d u) ∧ (((D.take j).find? fun d => d.name == z) = none → vs = [])) ∧ H = H') ⟨⟨[], rfl, Nat.le_refl _, by simp, fun _ => rfl⟩, rfl⟩ ?_ ?_ ?_⟩
  · rintro i ys H' hi ⟨⟨vs, rfl, hv, _⟩, rfl⟩
    exact ⟨SqT.of hp, by omega⟩
  · rintro i x ys H' hx ⟨⟨vs, rfl, hv, hf, hn⟩, rfl⟩
    obtain ⟨di, hdi, a, b, t, rfl, ha, hb, ht⟩ := hD.get hx
    refine ⟨_, rfl, .inr (.inl ⟨a, _, 1, _, rfl, rfl, SqT.of ha, rfl, _, rfl, .inl ⟨rfl, _, rfl, ite2 (fun c => ⟨_, rfl, ⟨⟨_, rfl, by rw [List.length_append]; simp only [List.length_cons, List.length_nil]; omega, fun d' h' => ?_, fun h' => ?_⟩, rfl⟩⟩) (fun c => ⟨⟨_, rfl, by omega, fun d' h' => ?_, fun h' => ?_⟩, rfl⟩)⟩⟩)⟩
    · rw [BV.take_one hdi, List.find?_append] at h'
      cases h9 : (D.take i).find? fun d => d.name == z with
      | some d9 =>
        rw [h9] at h'
        have e9 : d9 = d' := by simpa using h'
        subst e9
        obtain ⟨u, rest, e, h⟩ := hf d9 h9
        exact ⟨u, rest ++ [.ref a], by rw [e]; rfl, h⟩
      | none =>
        rw [h9] at h'
        have e8 : di.name == z ∧ di = d' := by simpa using h'
        obtain ⟨_, rfl⟩ := e8
        rw [hn h9]
        exact ⟨.ref a, [], rfl, a, b, t, rfl, ha, hb, ht⟩
    · rw [BV.take_one hdi, List.find?_append] at h'
      have e7 : di.name = z := by have := of_decide_eq_true c; injection this
      simp [e7] at h'
    · rw [BV.take_one hdi, List.find?_append] at h'
      cases h9 : (D.take i).find? fun d => d.name == z with
      | some d9 =>
        rw [h9] at h'
        have e9 : d9 = d' := by simpa using h'
        subst e9
        exact hf d9 h9
      | none =>
        rw [h9] at h'
        have e8 : di.name == z ∧ di = d' := by simpa using h'
        have e7 : di.name = z := by simpa using e8.1
        exact absurd (by rw [e7]; exact decide_eq_true rfl) c
    · rw [BV.take_one hdi, List.find?_append] at h'
      exact hn (Option.or_eq_none_iff.mp h').1
  rintro ys H' ⟨⟨vs, rfl, hv, hf, _⟩, rfl⟩ r hr0
  rw [← hl, List.take_of_length_le (Nat.le_refl _)] at hf
  obtain ⟨u, rest, rfl, h⟩ := hf d hd
  have s1 := same_new hr0 (.lst (u :: rest))
  exact .inl ⟨r, _, 0, _, rfl, rfl, SqL.of upd_same, (show atI (u :: rest) ((0 : Nat) : Int) = some u from atI_nat rfl), q _ _ s1 (h.mono (tups_of s1))⟩
end
end RK
set_option maxHeartbeats 4000000
namespace RK
open PySem L2 BV
seal PE PT PW PA PS PSs PTs PI PG PGs PO
abbrev s_value_bound : Stmt := BV.top 21
abbrev s_value_at_once : Stmt := BV.top 20
abbrev s_waiting_of : Stmt := BV.top 22
theorem sc_value_bound : FnScope ["name", "bound"] ["name", "bound"] (defScope s_value_bound) := ⟨rfl, rfl, rfl, by decide +kernel, rfl, by decide +kernel, by decide +kernel⟩
theorem sc_value_at_once : FnScope ["term", "bound", "form"] ["term", "bound"] (defScope s_value_at_once) := ⟨rfl, rfl, rfl, by decide +kernel, rfl, by decide +kernel, by decide +kernel⟩
theorem sc_waiting_of : FnScope ["term", "bound", "form"] ["term", "bound"] (defScope s_waiting_of) := ⟨rfl, rfl, rfl, by decide +kernel, rfl, by decide +kernel, by decide +kernel⟩
theorem comp_tup2 {K : PySem.W.Frag} {a : Addr} {xs : List V} {caps : List Nat} {tt : TT} {te : TE} {σ : St} {H : Hp} {R : List V → Hp → Prop} (Pv : Nat → List V → Hp → Prop) (h0 : Pv 0 [] H) (hl : ∀ i ys H, i ≤ xs.length → Pv i ys H → SqT K H a xs ∧ ys.length ≤ sizeLine)
    (hs : ∀ i x ys H, xs[i]? = some x → Pv i ys H → ∃ p v1 v2, x = .ref p ∧ SqT K H p [v1, v2] ∧ tt (capσ2 caps σ (some v1) (some v2)) H fun b H2 => if b = true then te (capσ2 caps σ (some v1) (some v2)) H2 fun y H3 => Pv (i + 1) (ys ++ [y]) H3 else Pv (i + 1) ys H2) (hd : ∀ ys H, Pv xs.length ys H → R ys H) :
    ∃ W : Nat → Nat → List V → Hp → Prop, (∃ m, W 0 m [] H) ∧ ∀ i m ys H, W i m ys H → ys.length ≤ sizeLine ∧ (((Itt K a).stop i H ∧ R ys H) ∨ ((Itt K a).go i H ∧ ∃ N : List V → Hp → Prop, (∀ ys' H', N ys' H' → ∃ m', m' < m ∧ W (i + 1) m' ys' H') ∧ ∀ v H', (Itt K a).yld i H v H' →
      ∃ p v1 v2, v = .ref p ∧ SqT K H' p [v1, v2] ∧ tt (capσ2 caps σ (some v1) (some v2)) H' fun b H2 => if b = true then te (capσ2 caps σ (some v1) (some v2)) H2 fun y H3 => N (ys ++ [y]) H3 else N ys H2)) := by
  refine ⟨fun i m ys H => m = xs.length - i ∧ i ≤ xs.length ∧ Pv i ys H, ⟨xs.length, by simp, Nat.zero_le _, h0⟩, ?_⟩
  rintro i m ys H ⟨rfl, hi, p⟩
  obtain ⟨q, hz⟩ := hl i ys H hi p
  refine ⟨hz, ?_⟩
  by_cases hlt : i < xs.length
  · refine .inr ⟨⟨xs, xs[i], q, by simp [hlt]⟩, Pv (i + 1), fun ys' H' p' => ⟨xs.length - (i + 1), by omega, rfl, hlt, p'⟩, fun x H' y => ?_⟩
    obtain ⟨e, y⟩ := y
    subst e
    exact hs i x ys _ (y xs q) p
  · have e : i = xs.length := by omega
    subst e
    exact .inl ⟨⟨xs, q, Nat.le_refl _⟩, hd ys H p⟩
theorem look_app (z : Str) (e : En) (x : Str × Int) : look z (e ++ [x]) = if x.1 = z then some x.2 else look z e := by
  induction e with
  | nil => simp [look]
  | cons y r ih =>
    obtain ⟨y1, y2⟩ := y
    simp only [List.cons_append, look, ih]
    by_cases h : x.1 = z
    · rw [if_pos h, if_pos h]
    · rw [if_neg h, if_neg h]
section
variable {P : Program} {w : World} {K : PySem.W.Frag} {mg : Str → Option Value} {base : Heap} {f : Addr} {fd : FuncData} {f_value_bound : Addr} {d_value_bound : FuncData}
def spVb : Sp := fun vs H Q _ => ∃ (z : Str) (e : En) (v : V) (n : Int), vs = [.str z, v] ∧ EnAt H e v ∧ e.length ≤ 1000 ∧ look z e = some n ∧ ∀ H', Same H H' → Q (.int n) H'
theorem ok_value_bound (F : Fun K "value_bound" "value_bound" s_value_bound f fd) : FnOk P w K mg base CX0 1 f fd ["name", "bound"] spVb := by
  refine F.ok sc_value_bound (fun vs H Q E h => ?_) (fun cdv A outer s H vs Q E hr h => ?_)
  · obtain ⟨z, e, v, n, rfl, _⟩ := h
    rfl
  obtain ⟨z, e, v, n, rfl, ⟨p, us, rfl, hp, he⟩, hz, hn, q⟩ := h
  have nd := sc_value_bound.nd
  have hu := hr.units0
  have zz : (1000 : Nat) ≤ sizeLine := by decide
  have hl := he.len
  refine ⟨_, (pss_one (ps_ret (pe_ix (kIx (K := K) (w := w)) (pe_comp2 (CompScope2.mk (N := ["name", "bound"]) (sc := defScope s_value_bound) (caps := [0]) (ns := ["name"]) (by decide +kernel) rfl (by decide +kernel) rfl rfl (by decide +kernel) rfl (by decide +kernel) (by decide +kernel)) rfl rfl rfl (k_itup (K := K) (pv 1)) (fun _ _ _ _ _ => (pts_one (pt_cmpR (kEq (K := K) hu) (pv 0) (pv 2) rfl))) (fun _ _ _ _ _ => (pv 1))) (pe_un un_neg pe_int) (fun _ _ => rfl)))), ?_⟩
  refine ⟨_, rfl, p, rfl, ⟨us, SqT.of hp⟩, comp_tup2 (xs := us) (fun j ys H' => ys.length ≤ j ∧ (∀ m, look z (e.take j) = some m → ∃ pre, ys = pre ++ [.int m]) ∧ H = H') ⟨Nat.le_refl _, by simp [look], rfl⟩ ?_ ?_ ?_⟩
  · rintro i ys H' hi ⟨hv, _, rfl⟩
    exact ⟨SqT.of hp, by omega⟩
  · rintro i x ys H' hx ⟨hv, hf, rfl⟩
    obtain ⟨⟨y1, y2⟩, hy, a, rfl, ha⟩ := he.get hx
    refine ⟨a, _, _, rfl, SqT.of ha, _, rfl, _, rfl, .inl ⟨rfl, _, rfl, ite2 (fun c => ⟨_, rfl, ?_, fun m hm => ?_, rfl⟩) (fun c => ⟨by omega, fun m hm => ?_, rfl⟩)⟩⟩
    · rw [List.length_append]; simp only [List.length_cons, List.length_nil]; omega
    · have ec : y1 = z := by have := of_decide_eq_true c; injection this
      rw [BV.take_one hy, look_app, if_pos ec] at hm
      cases hm
      exact ⟨ys, rfl⟩
    · have ec : ¬ y1 = z := fun z => c (by rw [z]; exact decide_eq_true rfl)
      rw [BV.take_one hy, look_app, if_neg ec] at hm
      exact hf m hm
  rintro ys H' ⟨hv, hf, rfl⟩ r hr0
  rw [← hl, List.take_of_length_le (Nat.le_refl _)] at hf
  obtain ⟨pre, rfl⟩ := hf n hn
  exact ⟨1, rfl, .inl ⟨r, _, _, _, rfl, rfl, SqL.of upd_same, atI_last _ _, q _ (same_new hr0 _)⟩⟩
/-- number, name, fn -/
def once (t : Tm) (e : En) : Option Vl := match t with
  | .num n => some (.int n)
  | .name z => (look z e).map .int
  | .fn z b => some (.fn z b e)
  | _ => none
def spOnce : Sp := fun vs H Q _ => ∃ (t : Tm) (e : En) (v : Vl) (tv ev : V), vs = [tv, ev] ∧ TmAt H t tv ∧ EnAt H e ev ∧ e.length ≤ 1000 ∧ once t e = some v ∧ ∀ u H', Same H H' → VlAt H' v u → Q u H'
theorem ok_value_at_once (F : Fun K "value_at_once" "value_at_once" s_value_at_once f fd)
    (G_value_bound : FnOk P w K mg base CX0 1 f_value_bound d_value_bound ["name", "bound"] spVb) (b_value_bound : Binds K d_value_bound ["name", "bound"] []) (k_value_bound : PySem.W.keepIn K (.ref f_value_bound) = true) (m_value_bound : mg "value_bound" = some (.ref f_value_bound)) :
    FnOk P w K mg base CX0 2 f fd ["term", "bound"] spOnce := by
  refine F.ok sc_value_at_once (fun vs H Q E h => ?_) (fun cdv A outer s H vs Q E hr h => ?_)
  · obtain ⟨t, e, v, tv, ev, rfl, _⟩ := h
    rfl
  obtain ⟨t, e, v, tv, ev, rfl, ht, he, hz, hv, q⟩ := h
  have nd := sc_value_at_once.nd
  have hu := hr.units0
  have z4 : (4 : Nat) ≤ sizeLine := by decide
  refine ⟨_, (pss_cons (ps_set (i := 2) nd rfl (Or.inl rfl) (pe_ix (kIx (K := K) (w := w)) (pv 0) pe_int (fun _ _ => rfl)))
      (pss_cons (ps_if (pt_cmpR (kEq (K := K) hu) (pv 2) pe_str rfl) (pss_one (ps_ret (pe_tup (pa_cons pe_str (pa_cons (pe_tup pa_nil) pa_nil))))) pss_nil)
      (pss_cons (ps_if (pt_cmpR (kEq (K := K) hu) (pv 2) pe_str rfl) (pss_one (ps_ret (pe_call G_value_bound (hr.mono (by first | decide | omega)) rfl m_value_bound k_value_bound b_value_bound .nil pass0 (pa_cons (pe_ix (kIx (K := K) (w := w)) (pv 0) pe_int (fun _ _ => rfl)) (pa_cons (pv 1) pa_nil))))) pss_nil)
      (pss_cons (ps_if (pt_cmpR (kEq (K := K) hu) (pv 2) pe_str rfl) (pss_one (ps_ret (pe_tup (pa_cons pe_str (pa_cons (pe_ix (kIx (K := K) (w := w)) (pv 0) pe_int (fun _ _ => rfl)) (pa_cons (pe_ix (kIx (K := K) (w := w)) (pv 0) pe_int (fun _ _ => rfl)) (pa_cons (pv 1) pa_nil))))))) pss_nil)
      (pss_one (ps_ret (pe_ix (kIx (K := K) (w := w)) (pv 0) pe_int (fun _ _ => rfl)))))))), ?_⟩
  cases t with
  | num n =>
    obtain ⟨p, rfl, hp⟩ := ht
    cases hv
    refine ⟨_, rfl, .inr (.inl ⟨p, _, 0, _, rfl, rfl, SqT.of hp, rfl, ?_⟩)⟩
    refine ⟨_, rfl, .inl ⟨rfl, _, rfl, ifF Bool.false_ne_true ⟨_, rfl, .inl ⟨rfl, _, rfl, ifF Bool.false_ne_true ⟨_, rfl, .inl ⟨rfl, _, rfl, ifF Bool.false_ne_true ?_⟩⟩⟩⟩⟩⟩
    exact ⟨_, rfl, .inr (.inl ⟨p, _, 1, _, rfl, rfl, SqT.of hp, rfl, q _ _ (Same.refl _) rfl⟩)⟩
  | name z =>
    obtain ⟨p, rfl, hp⟩ := ht
    obtain ⟨n, hn, rfl⟩ := Option.map_eq_some_iff.mp (show (look z e).map Vl.int = some v from hv)
    refine ⟨_, rfl, .inr (.inl ⟨p, _, 0, _, rfl, rfl, SqT.of hp, rfl, ?_⟩)⟩
    refine ⟨_, rfl, .inl ⟨rfl, _, rfl, ifF Bool.false_ne_true ⟨_, rfl, .inl ⟨rfl, _, rfl, ifT rfl ?_⟩⟩⟩⟩
    exact ⟨_, rfl, .inr (.inl ⟨p, _, 1, _, rfl, rfl, SqT.of hp, rfl, _, rfl, z, e, ev, n, rfl, he, hz, hn, fun H' s1 => q _ _ s1 rfl⟩)⟩
  | fn z b =>
    obtain ⟨p, u, rfl, hp, hb⟩ := ht
    cases hv
    refine ⟨_, rfl, .inr (.inl ⟨p, _, 0, _, rfl, rfl, SqT.of hp, rfl, ?_⟩)⟩
    refine ⟨_, rfl, .inl ⟨rfl, _, rfl, ifF Bool.false_ne_true ⟨_, rfl, .inl ⟨rfl, _, rfl, ifF Bool.false_ne_true ⟨_, rfl, .inl ⟨rfl, _, rfl, ifT rfl ?_⟩⟩⟩⟩⟩⟩
    refine ⟨_, rfl, .inr (.inl ⟨p, _, 1, _, rfl, rfl, SqT.of hp, rfl, _, rfl, .inr (.inl ⟨p, _, 2, _, rfl, rfl, SqT.of hp, rfl, _, rfl, z4, fun r hr0 => ?_⟩)⟩)⟩
    have s1 := same_new hr0 (.tup [.str "fn", .str z, u, ev])
    exact q _ _ s1 ⟨r, u, ev, rfl, upd_same, TmAt.mono (tups_of s1) _ _ hb, he.mono (tups_of s1)⟩
  | _ => cases hv
end
end RK
set_option maxHeartbeats 4000000
namespace RK
open PySem L2 BV
seal PE PT PW PA PS PSs PTs PI PG PGs PO
abbrev s_parts_of : Stmt := BV.top 8
abbrev s_onward_from_term : Stmt := BV.top 19
theorem sc_parts_of : FnScope ["term", "form"] ["term"] (defScope s_parts_of) := ⟨rfl, rfl, rfl, by decide +kernel, rfl, by decide +kernel, by decide +kernel⟩
theorem sc_onward_from_term : FnScope ["program", "state", "most", "term", "bound", "first"] ["program", "state", "most"] (defScope s_onward_from_term) := ⟨rfl, rfl, rfl, by decide +kernel, rfl, by decide +kernel, by decide +kernel⟩
section
variable {P : Program} {w : World} {K : PySem.W.Frag} {mg : Str → Option Value} {base : Heap} {f : Addr} {fd : FuncData} {f_value_at_once f_into_function f_parts_of f_waiting_of : Addr} {d_value_at_once d_into_function d_parts_of d_waiting_of : FuncData}
def frOf (t : Tm) (e : En) : Option (Tm × Fr) := match t with
  | .two g a b => some (a, .two g b e)
  | .ite c a b => some (c, .ite a b e)
  | .let_ z a b => some (a, .let_ z b e)
  | .do_ g a => some (g, .do_ a e)
  | .call z a => some (a, .call z e)
  | _ => none
def spWait : Sp := fun vs H Q _ => ∃ (t : Tm) (e : En) (x : Tm × Fr) (tv ev : V), vs = [tv, ev] ∧ TmAt H t tv ∧ EnAt H e ev ∧ frOf t e = some x ∧ ∀ u H', Same H H' → FrAt H' x.2 u → Q u H'
theorem ok_waiting_of (F : Fun K "waiting_of" "waiting_of" s_waiting_of f fd) : FnOk P w K mg base CX0 1 f fd ["term", "bound"] spWait := by
  refine F.ok sc_waiting_of (fun vs H Q E h => ?_) (fun cdv A outer s H vs Q E hr h => ?_)
  · obtain ⟨t, e, v, tv, ev, rfl, _⟩ := h
    rfl
  obtain ⟨t, e, x, tv, ev, rfl, ht, he, hx, q⟩ := h
  have nd := sc_waiting_of.nd
  have hu := hr.units0
  have z4 : (4 : Nat) ≤ sizeLine := by decide
  have z5 : (5 : Nat) ≤ sizeLine := by decide
  refine ⟨_, (pss_cons (ps_set (i := 2) nd rfl (Or.inl rfl) (pe_ix (kIx (K := K) (w := w)) (pv 0) pe_int (fun _ _ => rfl)))
      (pss_cons (ps_if (pt_cmpR (kEq (K := K) hu) (pv 2) pe_str rfl) (pss_one (ps_ret (pe_tup (pa_cons pe_str (pa_cons (pe_ix (kIx (K := K) (w := w)) (pv 0) pe_int (fun _ _ => rfl)) (pa_cons (pe_ix (kIx (K := K) (w := w)) (pv 0) pe_int (fun _ _ => rfl)) (pa_cons (pv 1) pa_nil))))))) pss_nil)
      (pss_cons (ps_if (pt_cmpR (kEq (K := K) hu) (pv 2) pe_str rfl) (pss_one (ps_ret (pe_tup (pa_cons pe_str (pa_cons (pe_ix (kIx (K := K) (w := w)) (pv 0) pe_int (fun _ _ => rfl)) pa_nil))))) pss_nil)
      (pss_cons (ps_if (pt_cmpR (kEq (K := K) hu) (pv 2) pe_str rfl) (pss_one (ps_ret (pe_tup (pa_cons pe_str (pa_cons (pe_ix (kIx (K := K) (w := w)) (pv 0) pe_int (fun _ _ => rfl)) (pa_cons (pe_ix (kIx (K := K) (w := w)) (pv 0) pe_int (fun _ _ => rfl)) (pa_cons (pv 1) pa_nil))))))) pss_nil)
      (pss_cons (ps_if (pt_cmpR (kEq (K := K) hu) (pv 2) pe_str rfl) (pss_one (ps_ret (pe_tup (pa_cons pe_str (pa_cons (pe_ix (kIx (K := K) (w := w)) (pv 0) pe_int (fun _ _ => rfl)) (pa_cons (pe_ix (kIx (K := K) (w := w)) (pv 0) pe_int (fun _ _ => rfl)) (pa_cons (pv 1) pa_nil))))))) pss_nil)
      (pss_cons (ps_if (pt_cmpR (kEq (K := K) hu) (pv 2) pe_str rfl) (pss_one (ps_ret (pe_tup (pa_cons pe_str (pa_cons (pe_ix (kIx (K := K) (w := w)) (pv 0) pe_int (fun _ _ => rfl)) (pa_cons (pv 1) pa_nil)))))) pss_nil)
      (pss_one (ps_ret (pe_tup (pa_cons pe_str (pa_cons (pe_ix (kIx (K := K) (w := w)) (pv 0) pe_int (fun _ _ => rfl)) (pa_cons (pe_tup pa_nil) (pa_cons (pe_slice (kSl (K := K)) (pe_ix (kIx (K := K) (w := w)) (pv 0) pe_int (fun _ _ => rfl)) (po_some pe_int) po_none) (pa_cons (pv 1) pa_nil)))))))))))))), ?_⟩
  cases t with
  | two g a b =>
    obtain ⟨p, u, y, rfl, hp, ha, hb⟩ := ht
    cases hx
    refine ⟨_, rfl, .inr (.inl ⟨p, _, 0, _, rfl, rfl, SqT.of hp, rfl, ?_⟩)⟩
    refine ⟨_, rfl, .inl ⟨rfl, _, rfl, ifT rfl ?_⟩⟩
    refine ⟨_, rfl, .inr (.inl ⟨p, _, 1, _, rfl, rfl, SqT.of hp, rfl, _, rfl, .inr (.inl ⟨p, _, 3, _, rfl, rfl, SqT.of hp, rfl, _, rfl, z4, fun r hr0 => ?_⟩)⟩)⟩
    have s1 := same_new hr0 (.tup [.str "two", .str g, y, ev])
    exact q _ _ s1 ⟨r, y, ev, rfl, upd_same, TmAt.mono (tups_of s1) _ _ hb, he.mono (tups_of s1)⟩
  | ite c a b =>
    obtain ⟨p, t, u, y, rfl, hp, hc, ha, hb⟩ := ht
    cases hx
    refine ⟨_, rfl, .inr (.inl ⟨p, _, 0, _, rfl, rfl, SqT.of hp, rfl, ?_⟩)⟩
    refine ⟨_, rfl, .inl ⟨rfl, _, rfl, ifF Bool.false_ne_true ⟨_, rfl, .inl ⟨rfl, _, rfl, ifF Bool.false_ne_true ⟨_, rfl, .inl ⟨rfl, _, rfl, ifT rfl ?_⟩⟩⟩⟩⟩⟩
    refine ⟨_, rfl, .inr (.inl ⟨p, _, 2, _, rfl, rfl, SqT.of hp, rfl, _, rfl, .inr (.inl ⟨p, _, 3, _, rfl, rfl, SqT.of hp, rfl, _, rfl, z4, fun r hr0 => ?_⟩)⟩)⟩
    have s1 := same_new hr0 (.tup [.str "if", u, y, ev])
    exact q _ _ s1 ⟨r, u, y, ev, rfl, upd_same, TmAt.mono (tups_of s1) _ _ ha, TmAt.mono (tups_of s1) _ _ hb, he.mono (tups_of s1)⟩
  | let_ z a b =>
    obtain ⟨p, u, y, rfl, hp, ha, hb⟩ := ht
    cases hx
    refine ⟨_, rfl, .inr (.inl ⟨p, _, 0, _, rfl, rfl, SqT.of hp, rfl, ?_⟩)⟩
    refine ⟨_, rfl, .inl ⟨rfl, _, rfl, ifF Bool.false_ne_true ⟨_, rfl, .inl ⟨rfl, _, rfl, ifF Bool.false_ne_true ⟨_, rfl, .inl ⟨rfl, _, rfl, ifF Bool.false_ne_true ⟨_, rfl, .inl ⟨rfl, _, rfl, ifT rfl ?_⟩⟩⟩⟩⟩⟩⟩⟩
    refine ⟨_, rfl, .inr (.inl ⟨p, _, 1, _, rfl, rfl, SqT.of hp, rfl, _, rfl, .inr (.inl ⟨p, _, 3, _, rfl, rfl, SqT.of hp, rfl, _, rfl, z4, fun r hr0 => ?_⟩)⟩)⟩
    have s1 := same_new hr0 (.tup [.str "let", .str z, y, ev])
    exact q _ _ s1 ⟨r, y, ev, rfl, upd_same, TmAt.mono (tups_of s1) _ _ hb, he.mono (tups_of s1)⟩
  | do_ g a =>
    obtain ⟨p, u, y, rfl, hp, ha, hb⟩ := ht
    cases hx
    refine ⟨_, rfl, .inr (.inl ⟨p, _, 0, _, rfl, rfl, SqT.of hp, rfl, ?_⟩)⟩
    refine ⟨_, rfl, .inl ⟨rfl, _, rfl, ifF Bool.false_ne_true ⟨_, rfl, .inl ⟨rfl, _, rfl, ifF Bool.false_ne_true ⟨_, rfl, .inl ⟨rfl, _, rfl, ifF Bool.false_ne_true ⟨_, rfl, .inl ⟨rfl, _, rfl, ifF Bool.false_ne_true ⟨_, rfl, .inl ⟨rfl, _, rfl, ifT rfl ?_⟩⟩⟩⟩⟩⟩⟩⟩⟩⟩
    refine ⟨_, rfl, .inr (.inl ⟨p, _, 2, _, rfl, rfl, SqT.of hp, rfl, _, rfl, three3, fun r hr0 => ?_⟩)⟩
    have s1 := same_new hr0 (.tup [.str "do", y, ev])
    exact q _ _ s1 ⟨r, y, ev, rfl, upd_same, TmAt.mono (tups_of s1) _ _ hb, he.mono (tups_of s1)⟩
  | call z a =>
    obtain ⟨p, p2, u, rfl, hp, hp2, ha⟩ := ht
    cases hx
    refine ⟨_, rfl, .inr (.inl ⟨p, _, 0, _, rfl, rfl, SqT.of hp, rfl, ?_⟩)⟩
    refine ⟨_, rfl, .inl ⟨rfl, _, rfl, ifF Bool.false_ne_true ⟨_, rfl, .inl ⟨rfl, _, rfl, ifF Bool.false_ne_true ⟨_, rfl, .inl ⟨rfl, _, rfl, ifF Bool.false_ne_true ⟨_, rfl, .inl ⟨rfl, _, rfl, ifF Bool.false_ne_true ⟨_, rfl, .inl ⟨rfl, _, rfl, ifF Bool.false_ne_true ?_⟩⟩⟩⟩⟩⟩⟩⟩⟩⟩
    refine ⟨_, rfl, .inr (.inl ⟨p, _, 1, _, rfl, rfl, SqT.of hp, rfl, (by show 0 ≤ sizeLine; decide), fun e1 he1 => ?_⟩)⟩
    have s1 := same_new he1 (.tup [])
    refine ⟨_, rfl, .inr (.inl ⟨p, _, 2, _, rfl, rfl, SqT.of (s1 _ _ hp), rfl, _, rfl, .inr ⟨p2, [u], rfl, SqT.of (s1 _ _ hp2), (fun z => nomatch z.1), fun e2 he2 => ?_⟩⟩)⟩
    have s2 := s1.trans (same_new he2 (.tup []))
    refine ⟨_, rfl, z5, fun r hr0 => ?_⟩
    have s3 := s2.trans (same_new hr0 (.tup [.str "call", .str z, .ref e1, .ref e2, ev]))
    exact q _ _ s3 ⟨r, e1, e2, ev, rfl, upd_same, (same_new hr0 _) _ _ ((same_new he2 _) _ _ upd_same), (same_new hr0 _) _ _ upd_same, he.mono (tups_of s3)⟩
  | _ => cases hx
end
end RK
set_option maxHeartbeats 4000000
namespace RK
open PySem L2 BV
seal PE PT PW PA PS PSs PTs PI PG PGs PO
def PF : List (Str × V) := [("two", .int 2), ("one", .int 2), ("if", .int 1), ("let", .int 2), ("fn", .int 2), ("do", .int 1)]
theorem notWhole {n k : Nat} (hk : 0 < k) (hn : 0 < n) (o : Option Int) : ¬ (HT.sIx n 0 (some (k : Int)) = 0 ∧ HT.sIx n n o = n) := by
  rw [HT.sIx_nat]
  omega
section
variable {P : Program} {w : World} {K : PySem.W.Frag} {mg : Str → Option Value} {base : Heap} {f : Addr} {fd : FuncData} {f_value_at_once f_into_function f_parts_of f_waiting_of : Addr} {d_value_at_once d_into_function d_parts_of d_waiting_of : FuncData} {pf : Addr}
def spParts : Sp := fun vs H Q _ => ∃ (t : Tm) (e : En) (x : Tm × Fr) (tv : V), vs = [tv] ∧ TmAt H t tv ∧ frOf t e = some x ∧ ∀ r H' u us, Same H H' → H' r = some (.lst (u :: us)) → TmAt H' x.1 u → Q (.ref r) H'
theorem ok_parts_of (F : Fun K "parts_of" "parts_of" s_parts_of f fd) (B : BV.NoG mg) (TD : TopD w K pf PF) (m_PARTS_FROM : mg "PARTS_FROM" = some (.ref pf)) : FnOk P w K mg base CX0 1 f fd ["term"] spParts := by
  refine F.ok sc_parts_of (fun vs H Q E h => ?_) (fun cdv A outer s H vs Q E hr h => ?_)
  · obtain ⟨t, e, x, tv, rfl, _⟩ := h
    rfl
  obtain ⟨t, e, x, tv, rfl, ht, hx, q⟩ := h
  have nd := sc_parts_of.nd
  have hu := hr.units0
  refine ⟨_, (pss_cons (ps_set (i := 1) nd rfl (Or.inl rfl) (pe_ix (kIx (K := K) (w := w)) (pv 0) pe_int (fun _ _ => rfl)))
      (pss_cons (ps_if (pt_cmpR (kEq (K := K) hu) (pv 1) pe_str rfl) (pss_one (ps_ret (pe_callTy (k_list (K := K)) rfl B.list_ bt_list (pa_cons (pe_ix (kIx (K := K) (w := w)) (pv 0) pe_int (fun _ _ => rfl)) pa_nil)))) pss_nil)
      (pss_cons (ps_if (pt_cmpR (kIn (K := K) (w := w)) (pv 1) (pe_glob (v := .ref _) rfl m_PARTS_FROM rfl) rfl) (pss_one (ps_ret (pe_callTy (k_list (K := K)) rfl B.list_ bt_list (pa_cons (pe_slice (kSl (K := K)) (pv 0) (po_some (pe_ix (kIx (K := K) (w := w)) (pe_glob (v := .ref _) rfl m_PARTS_FROM rfl) (pv 1) (fun _ _ => rfl))) po_none) pa_nil)))) pss_nil)
      (pss_one (ps_ret (pe_lst pa_nil)))))), ?_⟩
  cases t with
  | call z a =>
    obtain ⟨p, p2, u, rfl, hp, hp2, ha⟩ := ht
    cases hx
    refine ⟨_, rfl, .inr (.inl ⟨p, _, 0, _, rfl, rfl, SqT.of hp, rfl, ?_⟩)⟩
    refine ⟨_, rfl, .inl ⟨rfl, _, rfl, ifT (by decide) ?_⟩⟩
    refine ⟨_, rfl, .inr (.inl ⟨p, _, 2, _, rfl, rfl, SqT.of hp, rfl, _, _, rfl, .inr (SqT.of hp2), fun l hl => ?_⟩)⟩
    have s1 := same_new hl (.lst [u])
    exact q l _ u [] s1 upd_same (TmAt.mono (tups_of s1) _ _ ha)
  | two g a b | let_ g a b | do_ a b =>
    obtain ⟨p, u, y, rfl, hp, ha, hb⟩ := ht
    cases hx
    refine ⟨_, rfl, .inr (.inl ⟨p, _, 0, _, rfl, rfl, SqT.of hp, rfl, ?_⟩)⟩
    refine ⟨_, rfl, .inl ⟨rfl, _, rfl, ifF (by decide) ?_⟩⟩
    refine ⟨_, rfl, .inr (.inr ⟨_, _, PF, rfl, rfl, TD, _, rfl, ifT (by decide) ?_⟩)⟩
    refine ⟨_, rfl, _, rfl, .inr (.inr (.inr ⟨_, _, PF, _, rfl, rfl, TD, rfl, _, rfl, .inr ⟨p, _, rfl, SqT.of hp, notWhole (by decide) (Nat.succ_pos _) _, fun p3 hp3 => ?_⟩⟩))⟩
    refine ⟨_, _, rfl, .inr (SqT.of upd_same), fun l hl => ?_⟩
    have s1 := (same_new hp3 (.tup [u, y])).trans (same_new hl (.lst [u, y]))
    exact q l _ u [y] s1 upd_same (TmAt.mono (tups_of s1) _ _ ha)
  | ite c a b =>
    obtain ⟨p, t, u, y, rfl, hp, hc, ha, hb⟩ := ht
    cases hx
    refine ⟨_, rfl, .inr (.inl ⟨p, _, 0, _, rfl, rfl, SqT.of hp, rfl, ?_⟩)⟩
    refine ⟨_, rfl, .inl ⟨rfl, _, rfl, ifF (by decide) ?_⟩⟩
    refine ⟨_, rfl, .inr (.inr ⟨_, _, PF, rfl, rfl, TD, _, rfl, ifT (by decide) ?_⟩)⟩
    refine ⟨_, rfl, _, rfl, .inr (.inr (.inr ⟨_, _, PF, _, rfl, rfl, TD, rfl, _, rfl, .inr ⟨p, _, rfl, SqT.of hp, notWhole (by decide) (Nat.succ_pos _) _, fun p3 hp3 => ?_⟩⟩))⟩
    refine ⟨_, _, rfl, .inr (SqT.of upd_same), fun l hl => ?_⟩
    have s1 := (same_new hp3 (.tup [t, u, y])).trans (same_new hl (.lst [t, u, y]))
    exact q l _ t [u, y] s1 upd_same (TmAt.mono (tups_of s1) _ _ hc)
  | _ => cases hx
/-- of a term: what follows -/
def spOT : Sp := fun vs H Q _ => ∃ (t : Tm) (e : En) (s : Sta) (r : Res) (D : List Dn) (most : Int) (gv sv mv : V), vs = [gv, sv, mv] ∧ s.fo = .term t e ∧ StAt H s sv ∧ s.pile.length ≤ 10000 ∧ e.length ≤ 1000 ∧ step D most s = some r ∧ ∀ u H', Same H H' → ReAt H' r u → Q u H'
abbrev wo : List V := [.str "number", .str "truth", .str "none", .str "name", .str "fn"]
def tmW : Tm → Str
  | .num _ => "number" | .name _ => "name" | .fn _ _ => "fn" | .two _ _ _ => "two" | .ite _ _ _ => "if" | .let_ _ _ _ => "let" | .do_ _ _ => "do" | .call _ _ => "call"
theorem TmAt.word {H : Hp} {t : Tm} {v : V} (h : TmAt H t v) : ∃ a rest, v = .ref a ∧ H a = some (.tup (.str (tmW t) :: rest)) := by
  cases t with
  | num | name => obtain ⟨p, e, h⟩ := h; exact ⟨p, _, e, h⟩
  | fn => obtain ⟨p, u, e, h, _⟩ := h; exact ⟨p, _, e, h⟩
  | two | let_ | do_ => obtain ⟨p, u, y, e, h, _⟩ := h; exact ⟨p, _, e, h⟩
  | ite => obtain ⟨p, x, u, y, e, h, _⟩ := h; exact ⟨p, _, e, h⟩
  | call => obtain ⟨p, x, u, e, h, _⟩ := h; exact ⟨p, _, e, h⟩
theorem once_or {t : Tm} {e : En} {D : List Dn} {most : Int} {pile : List Fr} {calls deep : Int} {r : Res} (h : step D most ⟨.term t e, pile, calls, deep⟩ = some r) :
    (inV (.str (tmW t)) wo = true ∧ ∃ v, once t e = some v ∧ r = .st ⟨.val v, pile, calls, deep⟩) ∨ (inV (.str (tmW t)) wo = false ∧ ∃ x, frOf t e = some x ∧ r = .st ⟨.term x.1 e, x.2 :: pile, calls, deep⟩) := by
  cases t with
  | num n => cases h; exact .inl ⟨rfl, _, rfl, rfl⟩
  | name z =>
    obtain ⟨n, hn, rfl⟩ := Option.map_eq_some_iff.mp (show (look z e).map _ = some r from h)
    exact .inl ⟨rfl, _, by show (look z e).map Vl.int = _; rw [hn]; rfl, rfl⟩
  | fn => cases h; exact .inl ⟨rfl, _, rfl, rfl⟩
  | _ => cases h; exact .inr ⟨rfl, _, rfl, rfl⟩
theorem ok_onward_from_term (F : Fun K "onward_from_term" "onward_from_term" s_onward_from_term f fd) (B : BV.NoG mg)
    (G_value_at_once : FnOk P w K mg base CX0 2 f_value_at_once d_value_at_once ["term", "bound"] spOnce) (b_value_at_once : Binds K d_value_at_once ["term", "bound"] []) (k_value_at_once : PySem.W.keepIn K (.ref f_value_at_once) = true) (m_value_at_once : mg "value_at_once" = some (.ref f_value_at_once))
    (G_parts_of : FnOk P w K mg base CX0 1 f_parts_of d_parts_of ["term"] spParts) (b_parts_of : Binds K d_parts_of ["term"] []) (k_parts_of : PySem.W.keepIn K (.ref f_parts_of) = true) (m_parts_of : mg "parts_of" = some (.ref f_parts_of))
    (G_waiting_of : FnOk P w K mg base CX0 1 f_waiting_of d_waiting_of ["term", "bound"] spWait) (b_waiting_of : Binds K d_waiting_of ["term", "bound"] []) (k_waiting_of : PySem.W.keepIn K (.ref f_waiting_of) = true) (m_waiting_of : mg "waiting_of" = some (.ref f_waiting_of))
    {spIF : Sp} (G_into_function : FnOk P w K mg base CX0 2 f_into_function d_into_function ["program", "name", "values", "rest", "most"] spIF) (b_into_function : Binds K d_into_function ["program", "name", "values", "rest", "most"] []) (k_into_function : PySem.W.keepIn K (.ref f_into_function) = true) (m_into_function : mg "into_function" = some (.ref f_into_function)) :
    FnOk P w K mg base CX0 3 f fd ["program", "state", "most"] spOT := by
  refine F.ok sc_onward_from_term (fun vs H Q E h => ?_) (fun cdv A outer s H vs Q E hr h => ?_)
  · obtain ⟨t, e, s, r, D, most, gv, sv, mv, rfl, _⟩ := h
    rfl
  obtain ⟨t, e, ⟨fo, pile, calls, deep⟩, r, D, most, gv, sv, mv, rfl, hfo, ⟨p, fv, lv, rfl, hp, hf, hl⟩, hz, hez, hst, q⟩ := h
  have hfo : fo = .term t e := hfo
  subst hfo
  obtain ⟨pt, tv, ev, rfl, hpt, ht, he⟩ := hf
  have nd := sc_onward_from_term.nd
  have hu := hr.units0
  have z5 : (5 : Nat) ≤ sizeLine := by decide
  refine ⟨_, (pss_cons (ps_set (i := 3) nd rfl (Or.inl rfl) (pe_ix (kIx (K := K) (w := w)) (pe_ix (kIx (K := K) (w := w)) (pv 1) pe_int (fun _ _ => rfl)) pe_int (fun _ _ => rfl)))
      (pss_cons (ps_set (i := 4) nd rfl (Or.inl rfl) (pe_ix (kIx (K := K) (w := w)) (pe_ix (kIx (K := K) (w := w)) (pv 1) pe_int (fun _ _ => rfl)) pe_int (fun _ _ => rfl)))
      (pss_cons (ps_if (pt_cmpR (kIn (K := K) (w := w)) (pe_ix (kIx (K := K) (w := w)) (pv 3) pe_int (fun _ _ => rfl)) (pe_tup (pa_cons pe_str (pa_cons pe_str (pa_cons pe_str (pa_cons pe_str (pa_cons pe_str pa_nil)))))) rfl) (pss_one (ps_ret (pe_op (kAddT (K := K)) (pe_tup (pa_cons (pe_tup (pa_cons pe_str (pa_cons (pe_call G_value_at_once (hr.mono (by first | decide | omega)) rfl m_value_at_once k_value_at_once b_value_at_once .nil pass0 (pa_cons (pv 3) (pa_cons (pv 4) pa_nil))) pa_nil))) pa_nil)) (pe_slice (kSl (K := K)) (pv 1) (po_some pe_int) po_none)))) pss_nil)
      (pss_cons (ps_cut (ps_if (PW.pt (pw_and (pt_cmpR (kEq (K := K) hu) (pe_ix (kIx (K := K) (w := w)) (pv 3) pe_int (fun _ _ => rfl)) pe_str rfl) (pw_and1 (pt_cmpR (kEq (K := K) hu) (pe_callB (k_len (K := K)) rfl B.len_ bt_len (pa_cons (pe_ix (kIx (K := K) (w := w)) (pv 3) pe_int (fun _ _ => rfl)) pa_nil)) pe_int rfl)))) (pss_one (ps_ret (pe_call G_into_function (hr.mono (by first | decide | omega)) rfl m_into_function k_into_function b_into_function .nil pass0 (pa_cons (pv 0) (pa_cons (pe_ix (kIx (K := K) (w := w)) (pv 3) pe_int (fun _ _ => rfl)) (pa_cons (pe_tup pa_nil) (pa_cons (pe_slice (kSl (K := K)) (pv 1) (po_some pe_int) po_none) (pa_cons (pv 2) pa_nil)))))))) pss_nil))
      (pss_cons (ps_set (i := 5) nd rfl (Or.inl rfl) (pe_ix (kIx (K := K) (w := w)) (pe_call G_parts_of (hr.mono (by first | decide | omega)) rfl m_parts_of k_parts_of b_parts_of .nil pass0 (pa_cons (pv 3) pa_nil)) pe_int (fun _ _ => rfl)))
      (pss_one (ps_ret (pe_op (kAddT (K := K)) (pe_tup (pa_cons (pe_tup (pa_cons pe_str (pa_cons (pv 5) (pa_cons (pv 4) pa_nil)))) (pa_cons (pe_op (kAddT (K := K)) (pe_ix (kIx (K := K) (w := w)) (pv 1) pe_int (fun _ _ => rfl)) (pe_tup (pa_cons (pe_call G_waiting_of (hr.mono (by first | decide | omega)) rfl m_waiting_of k_waiting_of b_waiting_of .nil pass0 (pa_cons (pv 3) (pa_cons (pv 4) pa_nil))) pa_nil))) pa_nil))) (pe_slice (kSl (K := K)) (pv 1) (po_some pe_int) po_none))))))))), ?_⟩
  refine ⟨_, rfl, .inr (.inl ⟨p, _, 0, _, rfl, rfl, SqT.of hp, rfl, .inr (.inl ⟨pt, _, 1, _, rfl, rfl, SqT.of hpt, rfl, ?_⟩)⟩)⟩
  refine ⟨_, rfl, .inr (.inl ⟨p, _, 0, _, rfl, rfl, SqT.of hp, rfl, .inr (.inl ⟨pt, _, 2, _, rfl, rfl, SqT.of hpt, rfl, ?_⟩)⟩)⟩
  obtain ⟨a, rest, rfl, ha⟩ := ht.word
  have hat : atI (V.str (tmW t) :: rest) ((0 : Nat) : Int) = some (.str (tmW t)) := atI_nat rfl
  refine ⟨_, rfl, .inr (.inl ⟨a, _, 0, _, rfl, rfl, SqT.of ha, hat, z5, fun b hb => .inr (.inl ⟨b, wo, rfl, .inr (SqT.of upd_same), rfl, rfl, _, rfl, ?_⟩)⟩)⟩
  have s1 := same_new hb (.tup wo)
  show if inV (.str (tmW t)) wo = true then _ else _
  rcases once_or hst with ⟨hin, v, hv, rfl⟩ | ⟨hin, x, hx, rfl⟩
  · refine ifT hin ?_
    refine ⟨_, rfl, _, rfl, t, e, v, .ref a, ev, rfl, TmAt.mono (tups_of s1) _ _ ht, he.mono (tups_of s1), hez, hv, fun u H2 s2 hv2 => ⟨two2, fun a1 ha1 => ⟨one1, fun a2 ha2 => ?_⟩⟩⟩
    have s3 := same_new ha1 (.tup [.str "value", u])
    have s4 := same_new ha2 (.tup [.ref a1])
    have s14 := s1.trans (s2.trans (s3.trans s4))
    refine ⟨_, rfl, _, rfl, .inr ⟨p, _, rfl, SqT.of (s14 _ _ hp), notWhole (by decide) (Nat.succ_pos _) _, fun a3 ha3 => ?_⟩⟩
    have s5 := same_new ha3 (.tup [lv, .int calls, .int deep])
    refine .inr (.inl ⟨a2, a3, [.ref a1], [lv, .int calls, .int deep], rfl, rfl, SqT.of (s5 _ _ upd_same), SqT.of upd_same, List.cons_ne_nil _ _, (by show 4 ≤ sizeLine; decide), fun z => absurd z (List.cons_ne_nil _ _), fun _ r hr0 => ?_⟩)
    have s6 := same_new hr0 (.tup [.ref a1, lv, .int calls, .int deep])
    have sA := s14.trans (s5.trans s6)
    exact q _ _ sA ⟨r, .ref a1, lv, rfl, upd_same, ⟨a1, u, rfl, (s4.trans (s5.trans s6)) _ _ upd_same, VlAt.mono (tups_of (s3.trans (s4.trans (s5.trans s6)))) _ _ hv2⟩, hl.mono (tups_of sA)⟩
  · refine ifF (by rw [hin]; exact Bool.false_ne_true) ?_
    have ht1 := TmAt.mono (tups_of s1) _ _ ht
    have he1 := he.mono (tups_of s1)
    have ha1' := s1 _ _ ha
    have hp1 := s1 _ _ hp
    have hl1 := hl.mono (tups_of s1)
    have q1 : ∀ u H', Same (upd H b (.tup wo)) H' → ReAt H' (.st ⟨.term x.1 e, x.2 :: pile, calls, deep⟩) u → Q u H' := fun u H' sm h => q u H' (s1.trans sm) h
    clear q hb ht he ha hp hl hpt hst
    change Same H (upd H b (.tup wo)) at s1
    generalize upd H b (.tup wo) = H1 at s1 ht1 he1 ha1' hp1 hl1 q1 ⊢
    refine ⟨fun σ H' => σ = [some gv, some (.ref p), some mv, some (.ref a), some ev, none] ∧ H1 = H', ?_, ?_⟩
    · refine ⟨_, rfl, .inr (.inl ⟨a, _, 0, _, rfl, rfl, SqT.of ha1', hat, .inl ⟨rfl, _, rfl, ?_⟩⟩)⟩
      cases t with
      | call z a' =>
        obtain ⟨p', p2, u, e0, hp', hp2, _⟩ := ht1
        cases e0
        exact ifT rfl ⟨_, rfl, .inr (.inl ⟨a, _, 2, _, rfl, rfl, SqT.of hp', rfl, _, _, rfl, .inr ⟨_, SqT.of hp2, rfl⟩, .inl ⟨rfl, _, rfl, ifF (by simp) ⟨rfl, rfl⟩⟩⟩)⟩
      | _ => exact ifF Bool.false_ne_true (ifF Bool.false_ne_true ⟨rfl, rfl⟩)
    rintro σ H' ⟨rfl, rfl⟩
    refine ⟨_, rfl, t, e, x, .ref a, rfl, ht1, hx, fun r H3 u us s3 hr3 hu3 => .inl ⟨r, _, 0, _, rfl, rfl, SqL.of hr3, (show atI (u :: us) ((0 : Nat) : Int) = some u from atI_nat rfl), ?_⟩⟩
    refine ⟨_, rfl, _, rfl, three3, fun a1 ha1 => ?_⟩
    have s4 := same_new ha1 (.tup [.str "term", u, ev])
    have s34 := s3.trans s4
    refine ⟨_, rfl, .inr (.inl ⟨p, _, 1, _, rfl, rfl, SqT.of (s34 _ _ hp1), rfl, _, rfl, _, rfl, t, e, x, .ref a, ev, rfl, TmAt.mono (tups_of s34) _ _ ht1, he1.mono (tups_of s34), hx, fun u2 H4 s5 hf4 => ⟨one1, fun a2 ha2 => ?_⟩⟩)⟩
    have s6 := same_new ha2 (.tup [u2])
    have s36 := s34.trans (s5.trans s6)
    refine .inr (push_pile (fr := x.2) (hl1.mono (tups_of s36)) (FrAt.mono (tups_of s6) _ _ hf4) upd_same (by have : pile.length ≤ 10000 := hz; omega) fun l5 H5 s7 hp5 => ⟨two2, fun a3 ha3 => ?_⟩)
    have s8 := same_new ha3 (.tup [.ref a1, l5])
    have s38 := s36.trans (s7.trans s8)
    refine ⟨_, rfl, _, rfl, .inr ⟨p, _, rfl, SqT.of (s38 _ _ hp1), notWhole (by decide) (Nat.succ_pos _) _, fun a4 ha4 => ?_⟩⟩
    have s9 := same_new ha4 (.tup [.int calls, .int deep])
    refine .inr (.inl ⟨a3, a4, [.ref a1, l5], [.int calls, .int deep], rfl, rfl, SqT.of (s9 _ _ upd_same), SqT.of upd_same, List.cons_ne_nil _ _, (by show 4 ≤ sizeLine; decide), fun z => absurd z (List.cons_ne_nil _ _), fun _ r2 hr2 => ?_⟩)
    have s10 := same_new hr2 (.tup [.ref a1, l5, .int calls, .int deep])
    have sA := s38.trans (s9.trans s10)
    have sB := s5.trans (s6.trans (s7.trans (s8.trans (s9.trans s10))))
    exact q1 _ _ sA ⟨r2, .ref a1, l5, rfl, upd_same, ⟨a1, u, ev, rfl, sB _ _ upd_same, TmAt.mono (tups_of (s4.trans sB)) _ _ hu3, he1.mono (tups_of sA)⟩, hp5.mono (tups_of (s8.trans (s9.trans s10)))⟩
end
end RK
set_option maxHeartbeats 4000000
namespace RK
open PySem L2 BV
seal PE PT PW PA PS PSs PTs PI PG PGs PO
abbrev s_two_told : Stmt := BV.top 2
abbrev s_outcome : Stmt := BV.top 4
abbrev s_bounded : Stmt := BV.top 5
abbrev s_told_at_once : Stmt := BV.top 24
theorem sc_two_told : FnScope ["sign", "a", "b"] ["sign", "a", "b"] (defScope s_two_told) := ⟨rfl, rfl, rfl, by decide +kernel, rfl, by decide +kernel, by decide +kernel⟩
theorem sc_outcome : FnScope ["sign", "a", "b"] ["sign", "a", "b"] (defScope s_outcome) := ⟨rfl, rfl, rfl, by decide +kernel, rfl, by decide +kernel, by decide +kernel⟩
theorem sc_bounded : FnScope ["number"] ["number"] (defScope s_bounded) := ⟨rfl, rfl, rfl, by decide +kernel, rfl, by decide +kernel, by decide +kernel⟩
theorem sc_told_at_once : FnScope ["top", "value"] ["top", "value"] (defScope s_told_at_once) := ⟨rfl, rfl, rfl, by decide +kernel, rfl, by decide +kernel, by decide +kernel⟩
structure NoG2 (mg : Str → Option Value) : Prop where
  abs_ : mg "abs" = none
section
variable {P : Program} {w : World} {K : PySem.W.Frag} {mg : Str → Option Value} {base : Heap} {f : Addr} {fd : FuncData} {f_two_told f_outcome f_bounded f_quotient_told f_one_told : Addr} {d_two_told d_outcome d_bounded d_quotient_told d_one_told : FuncData} {pf : Addr}
def spPush : Sp := fun vs H Q _ => ∃ (fo : Fo) (fr : Fr) (r : List Fr) (calls deep : Int) (fv wv rv : V), vs = [fv, wv, rv] ∧ FoAt H fo fv ∧ FrAt H fr wv ∧ RsAt H r calls deep rv ∧ r.length ≤ 10000 ∧ ∀ u H', Same H H' → StAt H' ⟨fo, fr :: r, calls, deep⟩ u → Q u H'
theorem ok_pushed (F : Fun K "pushed" "pushed" s_pushed f fd) : FnOk P w K mg base CX0 1 f fd ["focus", "waits", "rest"] spPush := by
  refine F.ok sc_pushed (fun vs H Q E h => ?_) (fun cdv A outer s H vs Q E hr h => ?_)
  · obtain ⟨fo, fr, r, calls, deep, fv, wv, rv, rfl, _⟩ := h
    rfl
  obtain ⟨fo, fr, r, calls, deep, fv, wv, rv, rfl, hf, hw, ⟨p, lv, rfl, hp, hl⟩, hz, q⟩ := h
  have nd := sc_pushed.nd
  refine ⟨_, (pss_one (ps_ret (pe_op (kAddT (K := K)) (pe_tup (pa_cons (pv 0) (pa_cons (pe_op (kAddT (K := K)) (pe_ix (kIx (K := K) (w := w)) (pv 2) pe_int (fun _ _ => rfl)) (pe_tup (pa_cons (pv 1) pa_nil))) pa_nil))) (pe_slice (kSl (K := K)) (pv 2) (po_some pe_int) po_none)))), ?_⟩
  refine ⟨_, rfl, _, rfl, .inr (.inl ⟨p, _, 0, _, rfl, rfl, SqT.of hp, rfl, _, rfl, one1, fun a2 ha2 => ?_⟩)⟩
  have s1 := same_new ha2 (.tup [wv])
  refine .inr (push_pile (fr := fr) (hl.mono (tups_of s1)) (FrAt.mono (tups_of s1) _ _ hw) upd_same (by omega) fun l5 H5 s2 hp5 => ⟨two2, fun a3 ha3 => ?_⟩)
  have s3 := same_new ha3 (.tup [fv, l5])
  have s13 := s1.trans (s2.trans s3)
  refine ⟨_, rfl, _, rfl, .inr ⟨p, _, rfl, SqT.of (s13 _ _ hp), notWhole (by decide) (Nat.succ_pos _) _, fun a4 ha4 => ?_⟩⟩
  have s4 := same_new ha4 (.tup [.int calls, .int deep])
  refine .inr (.inl ⟨a3, a4, [fv, l5], [.int calls, .int deep], rfl, rfl, SqT.of (s4 _ _ upd_same), SqT.of upd_same, List.cons_ne_nil _ _, (by show 4 ≤ sizeLine; decide), fun z => absurd z (List.cons_ne_nil _ _), fun _ r2 hr2 => ?_⟩)
  have s5 := same_new hr2 (.tup [fv, l5, .int calls, .int deep])
  have sA := s13.trans (s4.trans s5)
  exact q _ _ sA ⟨r2, fv, l5, rfl, upd_same, FoAt.mono (tups_of sA) _ _ hf, hp5.mono (tups_of (s3.trans (s4.trans s5)))⟩
def spOutc : Sp := fun vs H Q _ => ∃ (g : Str) (a b : Int), vs = [.str g, .int a, .int b] ∧ ((g = "+" ∧ Q (.int (a + b)) H) ∨ (g = "-" ∧ Q (.int (a - b)) H))
theorem ok_outcome (F : Fun K "outcome" "outcome" s_outcome f fd) : FnOk P w K mg base CX0 1 f fd ["sign", "a", "b"] spOutc := by
  refine F.ok sc_outcome (fun vs H Q E h => ?_) (fun cdv A outer s H vs Q E hr h => ?_)
  · obtain ⟨g, a, b, rfl, _⟩ := h
    rfl
  obtain ⟨g, a, b, rfl, h⟩ := h
  have nd := sc_outcome.nd
  have hu := hr.units0
  refine ⟨_, (pss_cons (ps_if (pt_cmpR (kEq (K := K) hu) (pv 0) pe_str rfl) (pss_one (ps_ret (pe_op (kAddT (K := K)) (pv 1) (pv 2)))) pss_nil)
      (pss_cons (ps_if (pt_cmpR (kEq (K := K) hu) (pv 0) pe_str rfl) (pss_one (ps_ret (pe_op op_sub (pv 1) (pv 2)))) pss_nil)
      (pss_one (ps_ret (pe_op uMul (pv 1) (pv 2)))))), ?_⟩
  rcases h with ⟨rfl, q⟩ | ⟨rfl, q⟩
  · exact ⟨_, rfl, .inl ⟨rfl, _, rfl, ifT rfl ⟨_, rfl, _, rfl, .inl ⟨_, _, rfl, rfl, q⟩⟩⟩⟩
  · exact ⟨_, rfl, .inl ⟨rfl, _, rfl, ifF Bool.false_ne_true ⟨_, rfl, .inl ⟨rfl, _, rfl, ifT rfl ⟨_, rfl, _, rfl, _, _, rfl, rfl, q⟩⟩⟩⟩⟩
def spBd : Sp := fun vs H Q _ => ∃ n : Int, vs = [.int n] ∧ n ≤ great ∧ -great ≤ n ∧ ∀ p H', Same H H' → H' p = some (.tup [.str "value", .int n]) → Q (.ref p) H'
theorem ok_bounded {tG : Tok} (F : Fun K "bounded" "bounded" s_bounded f fd) (B : NoG2 mg) (m_GREATEST : mg "GREATEST" = some (.int great tG)) : FnOk P w K mg base CX0 1 f fd ["number"] spBd := by
  refine F.ok sc_bounded (fun vs H Q E h => ?_) (fun cdv A outer s H vs Q E hr h => ?_)
  · obtain ⟨n, rfl, _⟩ := h
    rfl
  obtain ⟨n, rfl, h1, h2, q⟩ := h
  have nd := sc_bounded.nd
  have hu := hr.units0
  refine ⟨_, (pss_cons (ps_if (pt_cmpR op_gt (pe_callB call_abs rfl B.abs_ bt_abs (pa_cons (pv 0) pa_nil)) (pe_glob (v := .int 10000000000000000000000000000000000000000) rfl m_GREATEST ⟨_, rfl⟩) rfl) (pss_one (ps_ret (pe_tup (pa_cons pe_str (pa_cons pe_str pa_nil))))) pss_nil)
      (pss_one (ps_ret (pe_tup (pa_cons pe_str (pa_cons (pv 0) pa_nil)))))), ?_⟩
  refine ⟨_, rfl, _, rfl, _, _, rfl, rfl, _, rfl, ifF ?_ ⟨_, rfl, two2, fun p hp => q p _ (same_new hp _) upd_same⟩⟩
  have h1' : n ≤ 10000000000000000000000000000000000000000 := h1
  have h2' : -10000000000000000000000000000000000000000 ≤ n := h2
  simp
  omega
end
end RK
set_option maxHeartbeats 4000000
namespace RK
open PySem L2 BV
seal PE PT PW PA PS PSs PTs PI PG PGs PO
abbrev s_into_function : Stmt := BV.top 28
abbrev s_into_fn : Stmt := BV.top 29
abbrev s_onward_to_term : Stmt := BV.top 26
theorem sc_into_function : FnScope ["program", "name", "values", "rest", "most", "function"] ["program", "name", "values", "rest", "most"] (defScope s_into_function) := ⟨rfl, rfl, rfl, by decide +kernel, rfl, by decide +kernel, by decide +kernel⟩
theorem sc_into_fn : FnScope ["fn", "value", "rest", "most"] ["fn", "value", "rest", "most"] (defScope s_into_fn) := ⟨rfl, rfl, rfl, by decide +kernel, rfl, by decide +kernel, by decide +kernel⟩
theorem sc_onward_to_term : FnScope ["top", "value", "rest", "form", "terms"] ["top", "value", "rest"] (defScope s_onward_to_term) := ⟨rfl, rfl, rfl, by decide +kernel, rfl, by decide +kernel, by decide +kernel⟩
theorem en_push {K : PySem.W.Frag} {H : Hp} {e : En} {l : V} {z : Str} {n : Int} {u q : Addr} {Q : VK} (h : EnAt H e l) (hu : H u = some (.tup [.str z, .int n])) (hq : H q = some (.tup [.ref u])) (hz : e.length ≤ 100000)
    (go : ∀ r H', Same H H' → EnAt H' (e ++ [(z, n)]) r → Q r H') : rCatT K l (.ref q) H Q ∨ rCatT0 K l (.ref q) H Q := by
  obtain ⟨p, us, rfl, hp, ha⟩ := h
  have zz : (100001 : Nat) ≤ sizeLine := by decide
  have hl := ha.len
  cases us with
  | nil =>
    refine .inr ⟨p, q, [.ref u], rfl, rfl, SqT.of hp, SqT.of hq, go _ _ (Same.refl _) ⟨q, [.ref u], rfl, hq, ?_⟩⟩
    have : e = [] := List.eq_nil_of_length_eq_zero hl
    subst this
    exact .cons ⟨u, rfl, hu⟩ .nil
  | cons x us =>
    refine .inl ⟨p, q, x :: us, [.ref u], rfl, rfl, SqT.of hp, SqT.of hq, List.cons_ne_nil _ _, ?_, fun e => absurd e (List.cons_ne_nil _ _), fun _ r hr => ?_⟩
    · simp only [List.length_cons, List.length_nil] at hl ⊢
      omega
    have s1 := same_new hr (.tup (x :: us ++ [.ref u]))
    exact go _ _ s1 ⟨r, x :: us ++ [.ref u], rfl, upd_same, (ha.imp fun _ _ h => h.mono (tups_of s1)).app (.cons ⟨u, rfl, s1 _ _ hu⟩ .nil)⟩
section
variable {P : Program} {w : World} {K : PySem.W.Frag} {mg : Str → Option Value} {base : Heap} {f : Addr} {fd : FuncData} {f_two_told f_outcome f_bounded f_quotient_told f_one_told f_function_called f_bound_to f_into_body f_pushed : Addr} {d_two_told d_outcome d_bounded d_quotient_told d_one_told d_function_called d_bound_to d_into_body d_pushed : FuncData} {pf : Addr}
def spTwo : Sp := fun vs H Q _ => ∃ (g : Str) (a b : Int) (v : Vl), vs = [.str g, .int a, .int b] ∧ told g a b = some v ∧ ∀ p u H', Same H H' → H' p = some (.tup [.str "value", u]) → VlAt H' v u → Q (.ref p) H'
theorem ok_two_told (F : Fun K "two_told" "two_told" s_two_told f fd)
    (G_outcome : FnOk P w K mg base CX0 1 f_outcome d_outcome ["sign", "a", "b"] spOutc) (b_outcome : Binds K d_outcome ["sign", "a", "b"] []) (k_outcome : PySem.W.keepIn K (.ref f_outcome) = true) (m_outcome : mg "outcome" = some (.ref f_outcome))
    (G_bounded : FnOk P w K mg base CX0 1 f_bounded d_bounded ["number"] spBd) (b_bounded : Binds K d_bounded ["number"] []) (k_bounded : PySem.W.keepIn K (.ref f_bounded) = true) (m_bounded : mg "bounded" = some (.ref f_bounded))
    {spV : Sp} (G_quotient_told : FnOk P w K mg base CX0 1 f_quotient_told d_quotient_told ["a", "b"] spV) (b_quotient_told : Binds K d_quotient_told ["a", "b"] []) (k_quotient_told : PySem.W.keepIn K (.ref f_quotient_told) = true) (m_quotient_told : mg "quotient_told" = some (.ref f_quotient_told)) :
    FnOk P w K mg base CX0 2 f fd ["sign", "a", "b"] spTwo := by
  refine F.ok sc_two_told (fun vs H Q E h => ?_) (fun cdv A outer s H vs Q E hr h => ?_)
  · obtain ⟨g, a, b, v, rfl, _⟩ := h
    rfl
  obtain ⟨g, a, b, v, rfl, hv, q⟩ := h
  have nd := sc_two_told.nd
  have hu := hr.units0
  refine ⟨_, (pss_cons (ps_if (pt_cmpR (kEq (K := K) hu) (pv 0) pe_str rfl) (pss_one (ps_ret (pe_tup (pa_cons pe_str (pa_cons (pe_cmpR op_lt (pv 1) (pv 2) rfl) pa_nil))))) pss_nil)
      (pss_cons (ps_if (pt_cmpR (kEq (K := K) hu) (pv 0) pe_str rfl) (pss_one (ps_ret (pe_tup (pa_cons pe_str (pa_cons (pe_cmpR (kEq (K := K) hu) (pv 1) (pv 2) rfl) pa_nil))))) pss_nil)
      (pss_cons (ps_if (pt_cmpR (kEq (K := K) hu) (pv 0) pe_str rfl) (pss_one (ps_ret (pe_call G_quotient_told (hr.mono (by first | decide | omega)) rfl m_quotient_told k_quotient_told b_quotient_told .nil pass0 (pa_cons (pv 1) (pa_cons (pv 2) pa_nil))))) pss_nil)
      (pss_one (ps_ret (pe_call G_bounded (hr.mono (by first | decide | omega)) rfl m_bounded k_bounded b_bounded .nil pass0 (pa_cons (pe_call G_outcome (hr.mono (by first | decide | omega)) rfl m_outcome k_outcome b_outcome .nil pass0 (pa_cons (pv 0) (pa_cons (pv 1) (pa_cons (pv 2) pa_nil)))) pa_nil))))))), ?_⟩
  unfold told at hv
  by_cases g1 : g = "<"
  · subst g1
    rw [if_pos rfl] at hv
    cases hv
    exact ⟨_, rfl, .inl ⟨rfl, _, rfl, ifT rfl ⟨_, rfl, _, rfl, _, _, rfl, rfl, two2, fun p hp => q p _ _ (same_new hp _) upd_same rfl⟩⟩⟩
  rw [if_neg g1] at hv
  by_cases g2 : g = "+"
  · subst g2
    rw [if_pos rfl] at hv
    by_cases c : a + b ≤ great ∧ -great ≤ a + b
    · rw [if_pos c] at hv
      cases hv
      refine ⟨_, rfl, .inl ⟨rfl, _, rfl, ifF Bool.false_ne_true ⟨_, rfl, .inl ⟨rfl, _, rfl, ifF Bool.false_ne_true ⟨_, rfl, .inl ⟨rfl, _, rfl, ifF Bool.false_ne_true ?_⟩⟩⟩⟩⟩⟩
      exact ⟨_, rfl, _, rfl, _, rfl, _, _, _, rfl, .inl ⟨rfl, _, rfl, c.1, c.2, fun p H' sm hp => q p _ H' sm hp rfl⟩⟩
    · rw [if_neg c] at hv; cases hv
  rw [if_neg g2] at hv
  by_cases g3 : g = "-"
  · subst g3
    rw [if_pos rfl] at hv
    by_cases c : a - b ≤ great ∧ -great ≤ a - b
    · rw [if_pos c] at hv
      cases hv
      refine ⟨_, rfl, .inl ⟨rfl, _, rfl, ifF Bool.false_ne_true ⟨_, rfl, .inl ⟨rfl, _, rfl, ifF Bool.false_ne_true ⟨_, rfl, .inl ⟨rfl, _, rfl, ifF Bool.false_ne_true ?_⟩⟩⟩⟩⟩⟩
      exact ⟨_, rfl, _, rfl, _, rfl, _, _, _, rfl, .inr ⟨rfl, _, rfl, c.1, c.2, fun p H' sm hp => q p _ H' sm hp rfl⟩⟩
    · rw [if_neg c] at hv; cases hv
  rw [if_neg g3] at hv
  cases hv
def spTold : Sp := fun vs H Q _ => ∃ (t : Addr) (g : Str) (a b : Int) (v : Vl), vs = [.ref t, .int b] ∧ H t = some (.tup [.str "then", .str g, .int a]) ∧ told g a b = some v ∧ ∀ p u H', Same H H' → H' p = some (.tup [.str "value", u]) → VlAt H' v u → Q (.ref p) H'
theorem ok_told_at_once (F : Fun K "told_at_once" "told_at_once" s_told_at_once f fd)
    (G_two_told : FnOk P w K mg base CX0 2 f_two_told d_two_told ["sign", "a", "b"] spTwo) (b_two_told : Binds K d_two_told ["sign", "a", "b"] []) (k_two_told : PySem.W.keepIn K (.ref f_two_told) = true) (m_two_told : mg "two_told" = some (.ref f_two_told))
    {spV : Sp} (G_one_told : FnOk P w K mg base CX0 1 f_one_told d_one_told ["word", "value"] spV) (b_one_told : Binds K d_one_told ["word", "value"] []) (k_one_told : PySem.W.keepIn K (.ref f_one_told) = true) (m_one_told : mg "one_told" = some (.ref f_one_told)) :
    FnOk P w K mg base CX0 3 f fd ["top", "value"] spTold := by
  refine F.ok sc_told_at_once (fun vs H Q E h => ?_) (fun cdv A outer s H vs Q E hr h => ?_)
  · obtain ⟨t, g, a, b, v, rfl, _⟩ := h
    rfl
  obtain ⟨t, g, a, b, v, rfl, ht, hv, q⟩ := h
  have nd := sc_told_at_once.nd
  have hu := hr.units0
  refine ⟨_, (pss_cons (ps_if (pt_cmpR (kEq (K := K) hu) (pe_ix (kIx (K := K) (w := w)) (pv 0) pe_int (fun _ _ => rfl)) pe_str rfl) (pss_one (ps_ret (pe_call G_one_told (hr.mono (by first | decide | omega)) rfl m_one_told k_one_told b_one_told .nil pass0 (pa_cons (pe_ix (kIx (K := K) (w := w)) (pv 0) pe_int (fun _ _ => rfl)) (pa_cons (pv 1) pa_nil))))) pss_nil)
      (pss_cons (ps_if (pt_cmpR (kEq (K := K) hu) (pe_ix (kIx (K := K) (w := w)) (pv 0) pe_int (fun _ _ => rfl)) pe_str rfl) (pss_one (ps_ret (pe_tup (pa_cons pe_str (pa_cons (pe_tup (pa_cons pe_str (pa_cons (pe_op (kAddT (K := K)) (pe_tup (pa_cons (pe_ix (kIx (K := K) (w := w)) (pv 0) pe_int (fun _ _ => rfl)) pa_nil)) (pe_ix (kIx (K := K) (w := w)) (pv 1) pe_int (fun _ _ => rfl))) pa_nil))) pa_nil))))) pss_nil)
      (pss_one (ps_ret (pe_call G_two_told (hr.mono (by first | decide | omega)) rfl m_two_told k_two_told b_two_told .nil pass0 (pa_cons (pe_ix (kIx (K := K) (w := w)) (pv 0) pe_int (fun _ _ => rfl)) (pa_cons (pe_ix (kIx (K := K) (w := w)) (pv 0) pe_int (fun _ _ => rfl)) (pa_cons (pv 1) pa_nil)))))))), ?_⟩
  refine ⟨_, rfl, .inr (.inl ⟨t, _, 0, _, rfl, rfl, SqT.of ht, rfl, .inl ⟨rfl, _, rfl, ifF Bool.false_ne_true ?_⟩⟩)⟩
  have hc : ¬ decide (V.str g = V.str ":") = true := fun z => by
    have := of_decide_eq_true z
    injection this with this
    subst this
    cases hv
  refine ⟨_, rfl, .inr (.inl ⟨t, _, 1, _, rfl, rfl, SqT.of ht, rfl, .inl ⟨rfl, _, rfl, ifF hc ?_⟩⟩)⟩
  exact ⟨_, rfl, .inr (.inl ⟨t, _, 1, _, rfl, rfl, SqT.of ht, rfl, _, rfl, .inr (.inl ⟨t, _, 2, _, rfl, rfl, SqT.of ht, rfl, _, rfl, g, a, b, v, rfl, hv, q⟩)⟩)⟩
def spIF : Sp := fun vs H Q _ => ∃ (D : List Dn) (d : Dn) (z : Str) (n : Int) (r : List Fr) (calls deep most : Int) (gv rv : V) (a : Addr), vs = [gv, .str z, .ref a, rv, .int most] ∧ PgAt H D gv ∧ D.length ≤ 1000 ∧ (D.find? fun d => d.name == z) = some d ∧ H a = some (.tup [.int n]) ∧ RsAt H r calls deep rv ∧ r.length ≤ 10000 ∧
  ∀ v H', Same H H' → ReAt H' (into most d.body [(d.par, n)] r calls deep) v → Q v H'
theorem ok_into_function (F : Fun K "into_function" "into_function" s_into_function f fd)
    (G_function_called : FnOk P w K mg base CX0 1 f_function_called d_function_called ["program", "name"] spFc) (b_function_called : Binds K d_function_called ["program", "name"] []) (k_function_called : PySem.W.keepIn K (.ref f_function_called) = true) (m_function_called : mg "function_called" = some (.ref f_function_called))
    (G_bound_to : FnOk P w K mg base CX0 1 f_bound_to d_bound_to ["names", "values"] spBound) (b_bound_to : Binds K d_bound_to ["names", "values"] []) (k_bound_to : PySem.W.keepIn K (.ref f_bound_to) = true) (m_bound_to : mg "bound_to" = some (.ref f_bound_to))
    (G_into_body : FnOk P w K mg base CX0 1 f_into_body d_into_body ["body", "bound", "rest", "most"] spInto) (b_into_body : Binds K d_into_body ["body", "bound", "rest", "most"] []) (k_into_body : PySem.W.keepIn K (.ref f_into_body) = true) (m_into_body : mg "into_body" = some (.ref f_into_body)) :
    FnOk P w K mg base CX0 2 f fd ["program", "name", "values", "rest", "most"] spIF := by
  refine F.ok sc_into_function (fun vs H Q E h => ?_) (fun cdv A outer s H vs Q E hr h => ?_)
  · obtain ⟨D, d, z, n, r, calls, deep, most, gv, rv, a, rfl, _⟩ := h
    rfl
  obtain ⟨D, d, z, n, r, calls, deep, most, gv, rv, a, rfl, hg, hgl, hd, ha, hrv, hz, q⟩ := h
  have nd := sc_into_function.nd
  refine ⟨_, (pss_cons (ps_set (i := 5) nd rfl (Or.inl rfl) (pe_call G_function_called (hr.mono (by first | decide | omega)) rfl m_function_called k_function_called b_function_called .nil pass0 (pa_cons (pv 0) (pa_cons (pv 1) pa_nil))))
      (pss_one (ps_ret (pe_call G_into_body (hr.mono (by first | decide | omega)) rfl m_into_body k_into_body b_into_body .nil pass0 (pa_cons (pe_ix (kIx (K := K) (w := w)) (pv 5) pe_int (fun _ _ => rfl)) (pa_cons (pe_call G_bound_to (hr.mono (by first | decide | omega)) rfl m_bound_to k_bound_to b_bound_to .nil pass0 (pa_cons (pe_ix (kIx (K := K) (w := w)) (pv 5) pe_int (fun _ _ => rfl)) (pa_cons (pv 2) pa_nil))) (pa_cons (pv 3) (pa_cons (pv 4) pa_nil)))))))), ?_⟩
  refine ⟨_, rfl, _, rfl, D, d, z, gv, rfl, hg, hgl, hd, fun u H1 s1 ⟨p, pq, tv, e, hp, hpq, ht⟩ => ?_⟩
  subst e
  refine ⟨_, rfl, .inr (.inl ⟨p, _, 3, _, rfl, rfl, SqT.of hp, rfl, _, rfl, .inr (.inl ⟨p, _, 2, _, rfl, rfl, SqT.of hp, rfl, _, rfl, pq, a, d.par, n, rfl, hpq, .inl (s1 _ _ ha), fun ev H2 s2 he => ?_⟩)⟩)⟩
  have s12 := s1.trans s2
  exact ⟨_, rfl, _, rfl, d.body, _, r, calls, deep, most, tv, ev, rv, rfl, TmAt.mono (tups_of s2) _ _ ht, he, hrv.mono (tups_of s12), hz, fun v H' sm h => q v H' (s12.trans sm) h⟩
def spIN : Sp := fun vs H Q _ => ∃ (z : Str) (b : Tm) (e : En) (n : Int) (r : List Fr) (calls deep most : Int) (fv rv : V), vs = [fv, .int n, rv, .int most] ∧ VlAt H (.fn z b e) fv ∧ e.length ≤ 1000 ∧ RsAt H r calls deep rv ∧ r.length ≤ 10000 ∧
  ∀ v H', Same H H' → ReAt H' (into most b (e ++ [(z, n)]) r calls deep) v → Q v H'
theorem ok_into_fn (F : Fun K "into_fn" "into_fn" s_into_fn f fd)
    (G_into_body : FnOk P w K mg base CX0 1 f_into_body d_into_body ["body", "bound", "rest", "most"] spInto) (b_into_body : Binds K d_into_body ["body", "bound", "rest", "most"] []) (k_into_body : PySem.W.keepIn K (.ref f_into_body) = true) (m_into_body : mg "into_body" = some (.ref f_into_body)) :
    FnOk P w K mg base CX0 2 f fd ["fn", "value", "rest", "most"] spIN := by
  refine F.ok sc_into_fn (fun vs H Q E h => ?_) (fun cdv A outer s H vs Q E hr h => ?_)
  · obtain ⟨z, b, e, n, r, calls, deep, most, fv, rv, rfl, _⟩ := h
    rfl
  obtain ⟨z, b, e, n, r, calls, deep, most, fv, rv, rfl, ⟨p, tv, ev, rfl, hp, hb, he⟩, hez, hrv, hz, q⟩ := h
  have nd := sc_into_fn.nd
  refine ⟨_, (pss_one (ps_ret (pe_call G_into_body (hr.mono (by first | decide | omega)) rfl m_into_body k_into_body b_into_body .nil pass0 (pa_cons (pe_ix (kIx (K := K) (w := w)) (pv 0) pe_int (fun _ _ => rfl)) (pa_cons (pe_op (kAddT (K := K)) (pe_ix (kIx (K := K) (w := w)) (pv 0) pe_int (fun _ _ => rfl)) (pe_tup (pa_cons (pe_tup (pa_cons (pe_ix (kIx (K := K) (w := w)) (pv 0) pe_int (fun _ _ => rfl)) (pa_cons (pv 1) pa_nil))) pa_nil))) (pa_cons (pv 2) (pa_cons (pv 3) pa_nil))))))), ?_⟩
  refine ⟨_, rfl, .inr (.inl ⟨p, _, 2, _, rfl, rfl, SqT.of hp, rfl, _, rfl, .inr (.inl ⟨p, _, 3, _, rfl, rfl, SqT.of hp, rfl, _, rfl, .inr (.inl ⟨p, _, 1, _, rfl, rfl, SqT.of hp, rfl, _, rfl, two2, fun a1 ha1 => ⟨one1, fun a2 ha2 => ?_⟩⟩)⟩)⟩)⟩
  have s1 := (same_new ha1 (.tup [.str z, .int n])).trans (same_new ha2 (.tup [.ref a1]))
  refine .inr (en_push (he.mono (tups_of s1)) ((same_new ha2 _) _ _ upd_same) upd_same (by omega) fun ev2 H2 s2 he2 => ?_)
  have s12 := s1.trans s2
  exact ⟨_, rfl, _, rfl, b, _, r, calls, deep, most, tv, ev2, rv, rfl, TmAt.mono (tups_of s12) _ _ hb, he2, hrv.mono (tups_of s12), hz, fun v H' sm h => q v H' (s12.trans sm) h⟩
end
end RK
set_option maxHeartbeats 4000000
namespace RK
open PySem L2 BV
seal PE PT PW PA PS PSs PTs PI PG PGs PO
theorem cat_rest {K : PySem.W.Frag} {H : Hp} {fo : Fo} {fv : V} {r : List Fr} {c d : Int} {rv : V} {q : Addr} {Q : VK} (hf : FoAt H fo fv) (hq : H q = some (.tup [fv])) (hr : RsAt H r c d rv) (go : ∀ u H', Same H H' → StAt H' ⟨fo, r, c, d⟩ u → Q u H') : rCatT K (.ref q) rv H Q := by
  obtain ⟨p, l, rfl, hp, hl⟩ := hr
  refine ⟨q, p, [fv], [l, .int c, .int d], rfl, rfl, SqT.of hq, SqT.of hp, List.cons_ne_nil _ _, (by show 4 ≤ sizeLine; decide), fun z => absurd z (List.cons_ne_nil _ _), fun _ u hu => ?_⟩
  have s1 := same_new hu (.tup [fv, l, .int c, .int d])
  exact go _ _ s1 ⟨u, fv, l, rfl, upd_same, FoAt.mono (tups_of s1) _ _ hf, hl.mono (tups_of s1)⟩
def toT : Fr → Vl → Option (Fo × List Fr)
  | .ite a b e, .bl c => some (.term (if c then a else b) e, [])
  | .let_ z b e, .int m => some (.term b (e ++ [(z, m)]), [])
  | .two g t e, .int m => some (.term t e, [.then_ g m])
  | .do_ t e, .fn z b e' => some (.term t e, [.with_ z b e'])
  | _, _ => none
def enLe : Fr → Prop
  | .let_ _ _ e => e.length ≤ 1000
  | .with_ _ _ e => e.length ≤ 1000
  | _ => True
section
variable {P : Program} {w : World} {K : PySem.W.Frag} {mg : Str → Option Value} {base : Heap} {f : Addr} {fd : FuncData} {f_pushed : Addr} {d_pushed : FuncData}
def spTT : Sp := fun vs H Q _ => ∃ (fr : Fr) (x : Vl) (y : Fo × List Fr) (r : List Fr) (calls deep : Int) (tv xv rv : V), vs = [tv, xv, rv] ∧ FrAt H fr tv ∧ VlAt H x xv ∧ toT fr x = some y ∧ enLe fr ∧ RsAt H r calls deep rv ∧ r.length ≤ 10000 ∧
  ∀ v H', Same H H' → StAt H' ⟨y.1, y.2 ++ r, calls, deep⟩ v → Q v H'
theorem ok_onward_to_term (F : Fun K "onward_to_term" "onward_to_term" s_onward_to_term f fd)
    (G_pushed : FnOk P w K mg base CX0 1 f_pushed d_pushed ["focus", "waits", "rest"] spPush) (b_pushed : Binds K d_pushed ["focus", "waits", "rest"] []) (k_pushed : PySem.W.keepIn K (.ref f_pushed) = true) (m_pushed : mg "pushed" = some (.ref f_pushed)) :
    FnOk P w K mg base CX0 2 f fd ["top", "value", "rest"] spTT := by
  refine F.ok sc_onward_to_term (fun vs H Q E h => ?_) (fun cdv A outer s H vs Q E hr h => ?_)
  · obtain ⟨fr, x, y, r, calls, deep, tv, xv, rv, rfl, _⟩ := h
    rfl
  obtain ⟨fr, x, y, r, calls, deep, tv, xv, rv, rfl, hf, hx, hy, hen, hrv, hz, q⟩ := h
  have nd := sc_onward_to_term.nd
  have hu := hr.units0
  refine ⟨_, (pss_cons (ps_set (i := 3) nd rfl (Or.inl rfl) (pe_ix (kIx (K := K) (w := w)) (pv 0) pe_int (fun _ _ => rfl)))
      (pss_cons (ps_if (pt_cmpR (kEq (K := K) hu) (pv 3) pe_str rfl) (pss_one (ps_ret (pe_op (kAddT (K := K)) (pe_tup (pa_cons (pe_tup (pa_cons pe_str (pa_cons (pe_ifExp (k_truth (K := K) (pv 1) (fun _ => rfl)) (pe_ix (kIx (K := K) (w := w)) (pv 0) pe_int (fun _ _ => rfl)) (pe_ix (kIx (K := K) (w := w)) (pv 0) pe_int (fun _ _ => rfl))) (pa_cons (pe_ix (kIx (K := K) (w := w)) (pv 0) pe_int (fun _ _ => rfl)) pa_nil)))) pa_nil)) (pv 2)))) pss_nil)
      (pss_cons (ps_if (pt_cmpR (kEq (K := K) hu) (pv 3) pe_str rfl) (pss_one (ps_ret (pe_op (kAddT (K := K)) (pe_tup (pa_cons (pe_tup (pa_cons pe_str (pa_cons (pe_ix (kIx (K := K) (w := w)) (pv 0) pe_int (fun _ _ => rfl)) (pa_cons (pe_op (kAddT (K := K)) (pe_ix (kIx (K := K) (w := w)) (pv 0) pe_int (fun _ _ => rfl)) (pe_tup (pa_cons (pe_tup (pa_cons (pe_ix (kIx (K := K) (w := w)) (pv 0) pe_int (fun _ _ => rfl)) (pa_cons (pv 1) pa_nil))) pa_nil))) pa_nil)))) pa_nil)) (pv 2)))) pss_nil)
      (pss_cons (ps_if (pt_cmpR (kEq (K := K) hu) (pv 3) pe_str rfl) (pss_one (ps_ret (pe_call G_pushed (hr.mono (by first | decide | omega)) rfl m_pushed k_pushed b_pushed .nil pass0 (pa_cons (pe_tup (pa_cons pe_str (pa_cons (pe_ix (kIx (K := K) (w := w)) (pv 0) pe_int (fun _ _ => rfl)) (pa_cons (pe_ix (kIx (K := K) (w := w)) (pv 0) pe_int (fun _ _ => rfl)) pa_nil)))) (pa_cons (pe_tup (pa_cons pe_str (pa_cons (pe_ix (kIx (K := K) (w := w)) (pv 0) pe_int (fun _ _ => rfl)) (pa_cons (pv 1) pa_nil)))) (pa_cons (pv 2) pa_nil)))))) pss_nil)
      (pss_cons (ps_if (pt_cmpR (kEq (K := K) hu) (pv 3) pe_str rfl) (pss_one (ps_ret (pe_call G_pushed (hr.mono (by first | decide | omega)) rfl m_pushed k_pushed b_pushed .nil pass0 (pa_cons (pe_tup (pa_cons pe_str (pa_cons (pe_ix (kIx (K := K) (w := w)) (pv 0) pe_int (fun _ _ => rfl)) (pa_cons (pe_ix (kIx (K := K) (w := w)) (pv 0) pe_int (fun _ _ => rfl)) pa_nil)))) (pa_cons (pe_tup (pa_cons pe_str (pa_cons (pv 1) pa_nil))) (pa_cons (pv 2) pa_nil)))))) pss_nil)
      (pss_cons (ps_set (i := 4) nd rfl (Or.inl rfl) (pe_ix (kIx (K := K) (w := w)) (pv 0) pe_int (fun _ _ => rfl)))
      (pss_one (ps_ret (pe_call G_pushed (hr.mono (by first | decide | omega)) rfl m_pushed k_pushed b_pushed .nil pass0 (pa_cons (pe_tup (pa_cons pe_str (pa_cons (pe_ix (kIx (K := K) (w := w)) (pv 4) pe_int (fun _ _ => rfl)) (pa_cons (pe_ix (kIx (K := K) (w := w)) (pv 0) pe_int (fun _ _ => rfl)) pa_nil)))) (pa_cons (pe_tup (pa_cons pe_str (pa_cons (pe_ix (kIx (K := K) (w := w)) (pv 0) pe_int (fun _ _ => rfl)) (pa_cons (pe_op (kAddT (K := K)) (pe_ix (kIx (K := K) (w := w)) (pv 0) pe_int (fun _ _ => rfl)) (pe_tup (pa_cons (pv 1) pa_nil))) (pa_cons (pe_slice (kSl (K := K)) (pv 4) (po_some pe_int) po_none) (pa_cons (pe_ix (kIx (K := K) (w := w)) (pv 0) pe_int (fun _ _ => rfl)) pa_nil)))))) (pa_cons (pv 2) pa_nil)))))))))))), ?_⟩
  cases fr with
  | ite a b e =>
    cases x with
    | bl c =>
      obtain ⟨p, t1, t2, w1, rfl, hp, ha, hb, he⟩ := hf
      cases hx
      cases hy
      refine ⟨_, rfl, .inr (.inl ⟨p, _, 0, _, rfl, rfl, SqT.of hp, rfl, ?_⟩)⟩
      refine ⟨_, rfl, .inl ⟨rfl, _, rfl, ifT rfl ?_⟩⟩
      cases c
      · refine ⟨_, rfl, false, rfl, ifF Bool.false_ne_true ⟨_, rfl, .inr (.inl ⟨p, _, 2, _, rfl, rfl, SqT.of hp, rfl, _, rfl, .inr (.inl ⟨p, _, 3, _, rfl, rfl, SqT.of hp, rfl, three3, fun a1 ha1 => ⟨one1, fun a2 ha2 => ⟨_, rfl, .inr (.inl ?_)⟩⟩⟩)⟩)⟩⟩
        have s1 := (same_new ha1 (.tup [.str "term", t2, w1])).trans (same_new ha2 (.tup [.ref a1]))
        exact cat_rest (fo := .term b e) ⟨a1, t2, w1, rfl, (same_new ha2 _) _ _ upd_same, TmAt.mono (tups_of s1) _ _ hb, he.mono (tups_of s1)⟩ upd_same (hrv.mono (tups_of s1)) fun u H' sm h => q u H' (s1.trans sm) h
      · refine ⟨_, rfl, true, rfl, ifT rfl ⟨_, rfl, .inr (.inl ⟨p, _, 1, _, rfl, rfl, SqT.of hp, rfl, _, rfl, .inr (.inl ⟨p, _, 3, _, rfl, rfl, SqT.of hp, rfl, three3, fun a1 ha1 => ⟨one1, fun a2 ha2 => ⟨_, rfl, .inr (.inl ?_)⟩⟩⟩)⟩)⟩⟩
        have s1 := (same_new ha1 (.tup [.str "term", t1, w1])).trans (same_new ha2 (.tup [.ref a1]))
        exact cat_rest (fo := .term a e) ⟨a1, t1, w1, rfl, (same_new ha2 _) _ _ upd_same, TmAt.mono (tups_of s1) _ _ ha, he.mono (tups_of s1)⟩ upd_same (hrv.mono (tups_of s1)) fun u H' sm h => q u H' (s1.trans sm) h
    | _ => cases hy
  | let_ z b e =>
    cases x with
    | int m =>
      obtain ⟨p, t1, w1, rfl, hp, hb, he⟩ := hf
      cases hx
      cases hy
      refine ⟨_, rfl, .inr (.inl ⟨p, _, 0, _, rfl, rfl, SqT.of hp, rfl, ?_⟩)⟩
      refine ⟨_, rfl, .inl ⟨rfl, _, rfl, ifF Bool.false_ne_true ⟨_, rfl, .inl ⟨rfl, _, rfl, ifT rfl ?_⟩⟩⟩⟩
      refine ⟨_, rfl, .inr (.inl ⟨p, _, 2, _, rfl, rfl, SqT.of hp, rfl, _, rfl, .inr (.inl ⟨p, _, 3, _, rfl, rfl, SqT.of hp, rfl, _, rfl, .inr (.inl ⟨p, _, 1, _, rfl, rfl, SqT.of hp, rfl, _, rfl, two2, fun a1 ha1 => ⟨one1, fun a2 ha2 => ?_⟩⟩)⟩)⟩)⟩
      have s1 := (same_new ha1 (.tup [.str z, .int m])).trans (same_new ha2 (.tup [.ref a1]))
      refine .inr (en_push (he.mono (tups_of s1)) ((same_new ha2 _) _ _ upd_same) upd_same (by have : e.length ≤ 1000 := hen; omega) fun ev2 H2 s2 he2 => ⟨three3, fun a3 ha3 => ⟨one1, fun a4 ha4 => ⟨_, rfl, .inr (.inl ?_)⟩⟩⟩)
      have s3 := (same_new ha3 (.tup [.str "term", t1, ev2])).trans (same_new ha4 (.tup [.ref a3]))
      have s13 := s1.trans (s2.trans s3)
      exact cat_rest (fo := .term b (e ++ [(z, m)])) ⟨a3, t1, ev2, rfl, (same_new ha4 _) _ _ upd_same, TmAt.mono (tups_of s13) _ _ hb, he2.mono (tups_of s3)⟩ upd_same (hrv.mono (tups_of s13)) fun u H' sm h => q u H' (s13.trans sm) h
    | _ => cases hy
  | two g t e =>
    cases x with
    | int m =>
      obtain ⟨p, t1, w1, rfl, hp, hb, he⟩ := hf
      cases hx
      cases hy
      refine ⟨_, rfl, .inr (.inl ⟨p, _, 0, _, rfl, rfl, SqT.of hp, rfl, ?_⟩)⟩
      refine ⟨_, rfl, .inl ⟨rfl, _, rfl, ifF Bool.false_ne_true ⟨_, rfl, .inl ⟨rfl, _, rfl, ifF Bool.false_ne_true ⟨_, rfl, .inl ⟨rfl, _, rfl, ifT rfl ?_⟩⟩⟩⟩⟩⟩
      refine ⟨_, rfl, .inr (.inl ⟨p, _, 2, _, rfl, rfl, SqT.of hp, rfl, _, rfl, .inr (.inl ⟨p, _, 3, _, rfl, rfl, SqT.of hp, rfl, three3, fun a1 ha1 => ?_⟩)⟩)⟩
      have s1 := same_new ha1 (.tup [.str "term", t1, w1])
      refine ⟨_, rfl, .inr (.inl ⟨p, _, 1, _, rfl, rfl, SqT.of (s1 _ _ hp), rfl, _, rfl, three3, fun a2 ha2 => ?_⟩)⟩
      have s2 := same_new ha2 (.tup [.str "then", .str g, .int m])
      have s12 := s1.trans s2
      exact ⟨_, rfl, .term t e, .then_ g m, r, calls, deep, .ref a1, .ref a2, rv, rfl, ⟨a1, t1, w1, rfl, s2 _ _ upd_same, TmAt.mono (tups_of s12) _ _ hb, he.mono (tups_of s12)⟩, ⟨a2, rfl, upd_same⟩, hrv.mono (tups_of s12), hz, fun u H' sm h => q u H' (s12.trans sm) h⟩
    | _ => cases hy
  | do_ t e =>
    cases x with
    | fn z b e' =>
      obtain ⟨p, t1, w1, rfl, hp, hb, he⟩ := hf
      cases hy
      refine ⟨_, rfl, .inr (.inl ⟨p, _, 0, _, rfl, rfl, SqT.of hp, rfl, ?_⟩)⟩
      refine ⟨_, rfl, .inl ⟨rfl, _, rfl, ifF Bool.false_ne_true ⟨_, rfl, .inl ⟨rfl, _, rfl, ifF Bool.false_ne_true ⟨_, rfl, .inl ⟨rfl, _, rfl, ifF Bool.false_ne_true ⟨_, rfl, .inl ⟨rfl, _, rfl, ifT rfl ?_⟩⟩⟩⟩⟩⟩⟩⟩
      refine ⟨_, rfl, .inr (.inl ⟨p, _, 1, _, rfl, rfl, SqT.of hp, rfl, _, rfl, .inr (.inl ⟨p, _, 2, _, rfl, rfl, SqT.of hp, rfl, three3, fun a1 ha1 => ?_⟩)⟩)⟩
      have s1 := same_new ha1 (.tup [.str "term", t1, w1])
      refine ⟨_, rfl, two2, fun a2 ha2 => ?_⟩
      have s2 := same_new ha2 (.tup [.str "with", xv])
      have s12 := s1.trans s2
      exact ⟨_, rfl, .term t e, .with_ z b e', r, calls, deep, .ref a1, .ref a2, rv, rfl, ⟨a1, t1, w1, rfl, s2 _ _ upd_same, TmAt.mono (tups_of s12) _ _ hb, he.mono (tups_of s12)⟩, ⟨a2, xv, rfl, upd_same, VlAt.mono (tups_of s12) _ _ hx⟩, hrv.mono (tups_of s12), hz, fun u H' sm h => q u H' (s12.trans sm) h⟩
    | _ => cases hy
  | _ => cases x <;> cases hy
end
end RK
set_option maxHeartbeats 4000000
namespace RK
open PySem L2 BV
seal PE PT PW PA PS PSs PTs PI PG PGs PO
abbrev s_plain_value : Stmt := BV.top 31
abbrev s_items_in : Stmt := BV.top 32
abbrev s_with_items : Stmt := BV.top 33
abbrev s_is_list : Stmt := BV.top 34
abbrev s_onward_from_value : Stmt := BV.top 23
abbrev s_onward : Stmt := BV.top 16
theorem sc_plain_value : FnScope ["value"] ["value"] (defScope s_plain_value) := ⟨rfl, rfl, rfl, by decide +kernel, rfl, by decide +kernel, by decide +kernel⟩
theorem sc_items_in : FnScope ["value"] ["value"] (defScope s_items_in) := ⟨rfl, rfl, rfl, by decide +kernel, rfl, by decide +kernel, by decide +kernel⟩
theorem sc_with_items : FnScope ["value", "items"] ["value", "items"] (defScope s_with_items) := ⟨rfl, rfl, rfl, by decide +kernel, rfl, by decide +kernel, by decide +kernel⟩
theorem sc_is_list : FnScope ["value"] ["value"] (defScope s_is_list) := ⟨rfl, rfl, rfl, by decide +kernel, rfl, by decide +kernel, by decide +kernel⟩
theorem sc_onward_from_value : FnScope ["program", "state", "most", "value", "pile", "top", "rest", "told"] ["program", "state", "most"] (defScope s_onward_from_value) := ⟨rfl, rfl, rfl, by decide +kernel, rfl, by decide +kernel, by decide +kernel⟩
theorem sc_onward : FnScope ["program", "state", "most"] ["program", "state", "most"] (defScope s_onward) := ⟨rfl, rfl, rfl, by decide +kernel, rfl, by decide +kernel, by decide +kernel⟩
def LT : Tr where
  T := Int
  kids := fun _ => []
  size := fun _ => 1
  hsz := fun _ => rfl
  val := fun _ _ n v => v = .int n
  res := fun _ _ n v => v = .int n
  vm := fun _ h => h
  vw := fun _ h => h
  rm := fun _ h => h
  rw' := fun _ h => h
section
variable {P : Program} {w : World} {K : PySem.W.Frag} {mg : Str → Option Value} {base : Heap} {f : Addr} {fd : FuncData} {f_is_list f_items_in f_with_items f_built_up : Addr} {d_is_list d_items_in d_with_items d_built_up : FuncData}
theorem kit_it : PySem.W.kitOne K (.type "int") (.type "tuple") = some false := by rfl
def spIsL : Sp := fun vs H Q _ => ∃ n : Int, vs = [.int n] ∧ Q (.bl false) H
theorem ok_is_list (F : Fun K "is_list" "is_list" s_is_list f fd) (B : BV.NoG mg) : FnOk P w K mg base CX0 1 f fd ["value"] spIsL := by
  refine F.ok sc_is_list (fun vs H Q E h => ?_) (fun cdv A outer s H vs Q E hr h => ?_)
  · obtain ⟨n, rfl, _⟩ := h
    rfl
  obtain ⟨n, rfl, q⟩ := h
  have nd := sc_is_list.nd
  have hu := hr.units0
  refine ⟨_, (pss_one (ps_ret (pe_and (pe_callB (k_isi (K := K)) rfl B.isinstance_ bt_isinstance (pa_cons (pv 0) (pa_cons (pe_bltn (v := .ty "tuple") rfl B.tuple_ bt_tuple rfl) pa_nil))) (pe_one (pe_cmpR (kEq (K := K) hu) (pe_ix (kIx (K := K) (w := w)) (pv 0) pe_int (fun _ _ => rfl)) pe_str rfl))))), ?_⟩
  exact ⟨_, rfl, _, _, _, _, rfl, .int n, kit_it, false, rfl, ifF Bool.false_ne_true q⟩
theorem ok_items_in (F : Fun K "items_in" "items_in" s_items_in f fd) (B : BV.NoG mg)
    (G_is_list : FnOk P w K mg base CX0 1 f_is_list d_is_list ["value"] spIsL) (b_is_list : Binds K d_is_list ["value"] []) (k_is_list : PySem.W.keepIn K (.ref f_is_list) = true) (m_is_list : mg "is_list" = some (.ref f_is_list)) :
    FnOk P w K mg base CX0 2 f fd ["value"] (spP LT) := by
  refine F.ok sc_items_in (fun vs H Q E h => ?_) (fun cdv A outer s H vs Q E hr h => ?_)
  · obtain ⟨S, t, v, rfl, _⟩ := h
    rfl
  obtain ⟨S, t, v, rfl, hv, _, q⟩ := h
  cases hv
  have nd := sc_items_in.nd
  refine ⟨_, (pss_one (ps_ret (pe_ifExp (k_truth (K := K) (pe_call G_is_list (hr.mono (by first | decide | omega)) rfl m_is_list k_is_list b_is_list .nil pass0 (pa_cons (pv 0) pa_nil)) (fun _ => rfl)) (pe_callTy (k_list (K := K)) rfl B.list_ bt_list (pa_cons (pe_ix (kIx (K := K) (w := w)) (pv 0) pe_int (fun _ _ => rfl)) pa_nil)) (pe_lst pa_nil)))), ?_⟩
  refine ⟨_, rfl, t, rfl, false, rfl, ifF Bool.false_ne_true ⟨(by show 0 ≤ sizeLine; decide), fun l hl => q l _ [] (same_new hl _) hl upd_same .nil⟩⟩
theorem ok_with_items (F : Fun K "with_items" "with_items" s_with_items f fd)
    (G_is_list : FnOk P w K mg base CX0 1 f_is_list d_is_list ["value"] spIsL) (b_is_list : Binds K d_is_list ["value"] []) (k_is_list : PySem.W.keepIn K (.ref f_is_list) = true) (m_is_list : mg "is_list" = some (.ref f_is_list)) :
    FnOk P w K mg base CX0 2 f fd ["value", "items"] (spM LT) := by
  refine F.ok sc_with_items (fun vs H Q E h => ?_) (fun cdv A outer s H vs Q E hr h => ?_)
  · obtain ⟨S, t, v, l, us, rfl, _⟩ := h
    rfl
  obtain ⟨S, t, v, l, us, rfl, hv, _, _, _, _, _, q⟩ := h
  cases hv
  have nd := sc_with_items.nd
  refine ⟨_, (pss_one (ps_ret (pe_ifExp (k_truth (K := K) (pe_call G_is_list (hr.mono (by first | decide | omega)) rfl m_is_list k_is_list b_is_list .nil pass0 (pa_cons (pv 0) pa_nil)) (fun _ => rfl)) (pv 1) (pv 0)))), ?_⟩
  exact ⟨_, rfl, t, rfl, false, rfl, ifF Bool.false_ne_true ⟨_, rfl, q _ _ (Same.refl _) rfl⟩⟩
def spPlain : Sp := fun vs H Q _ => ∃ n : Int, vs = [.int n] ∧ ∀ H', Same H H' → Q (.int n) H'
theorem ok_plain_value (F : Fun K "plain_value" "plain_value" s_plain_value f fd)
    (G_built_up : FnOk P w K mg base CX0 3 f_built_up d_built_up ["root", "parts_in", "made"] (BV.spBuilt P w K mg base)) (b_built_up : Binds K d_built_up ["root", "parts_in", "made"] []) (k_built_up : PySem.W.keepIn K (.ref f_built_up) = true) (m_built_up : mg "built_up" = some (.ref f_built_up))
    (G_items_in : FnOk P w K mg base CX0 2 f_items_in d_items_in ["value"] (spP LT)) (b_items_in : Binds K d_items_in ["value"] []) (k_items_in : PySem.W.keepIn K (.ref f_items_in) = true) (m_items_in : mg "items_in" = some (.ref f_items_in))
    (G_with_items : FnOk P w K mg base CX0 2 f_with_items d_with_items ["value", "items"] (spM LT)) (b_with_items : Binds K d_with_items ["value", "items"] []) (k_with_items : PySem.W.keepIn K (.ref f_with_items) = true) (m_with_items : mg "with_items" = some (.ref f_with_items)) :
    FnOk P w K mg base CX0 4 f fd ["value"] spPlain := by
  refine F.ok sc_plain_value (fun vs H Q E h => ?_) (fun cdv A outer s H vs Q E hr h => ?_)
  · obtain ⟨n, rfl, _⟩ := h
    rfl
  obtain ⟨n, rfl, q⟩ := h
  have nd := sc_plain_value.nd
  refine ⟨_, (pss_one (ps_ret (pe_call G_built_up (hr.mono (by first | decide | omega)) rfl m_built_up k_built_up b_built_up .nil pass0 (pa_cons (pv 0) (pa_cons (pe_glob (v := .ref _) rfl m_items_in rfl) (pa_cons (pe_glob (v := .ref _) rfl m_with_items rfl) pa_nil)))))), ?_⟩
  exact ⟨_, rfl, LT, fun _ => False, n, .int n, f_items_in, f_with_items, _, _, _, _, rfl, G_items_in, k_items_in, b_items_in, G_with_items, k_with_items, b_with_items, (fun _ z => z.elim), rfl, (by show 1 ≤ 400000; decide), fun r H' sm hr => by cases hr; exact q H' sm⟩
theorem cut_last {us : List V} {u : V} : cutV (us ++ [u]) none (some (-1)) = us := by
  unfold cutV HT.sIx
  simp
  rw [show (-1 + ((us.length : Int) + 1)).toNat = us.length by omega]
  simp
theorem last_not {us : List V} {u : V} : ¬ (HT.sIx (us ++ [u]).length 0 none = 0 ∧ HT.sIx (us ++ [u]).length (us ++ [u]).length (some (-1)) = (us ++ [u]).length) := by
  unfold HT.sIx
  simp
  omega
end
def frW : Fr → Str
  | .two _ _ _ => "two" | .then_ _ _ => "then" | .ite _ _ _ => "if" | .let_ _ _ _ => "let" | .do_ _ _ => "do" | .with_ _ _ _ => "with" | .call _ _ => "call" | .back => "back"
theorem FrAt.word {H : Hp} {x : Fr} {v : V} (h : FrAt H x v) : ∃ a rest, v = .ref a ∧ H a = some (.tup (.str (frW x) :: rest)) := by
  cases x with
  | back | then_ => obtain ⟨p, e, h⟩ := h; exact ⟨p, _, e, h⟩
  | with_ => obtain ⟨p, u, e, h, _⟩ := h; exact ⟨p, _, e, h⟩
  | two | let_ | do_ => obtain ⟨p, u, y, e, h, _⟩ := h; exact ⟨p, _, e, h⟩
  | ite => obtain ⟨p, x, u, y, e, h, _⟩ := h; exact ⟨p, _, e, h⟩
  | call => obtain ⟨p, x, y, u, e, h, _⟩ := h; exact ⟨p, _, e, h⟩
theorem all2_snoc {α β : Type} {R : α → β → Prop} {a : α} {r : List α} {us : List β} (h : All2 R (a :: r).reverse us) : ∃ u0 u, us = u0 ++ [u] ∧ All2 R r.reverse u0 ∧ R a u := by
  rw [List.reverse_cons] at h
  obtain ⟨b1, b2, rfl, h1, h2⟩ := h.split
  cases h2 with
  | cons x y =>
    cases y
    exact ⟨b1, _, rfl, h1, x⟩
section
variable {P : Program} {w : World} {K : PySem.W.Frag} {mg : Str → Option Value} {base : Heap} {f : Addr} {fd : FuncData} {f_plain_value f_told_at_once f_into_fn f_into_function f_onward_to_term f_onward_from_term f_onward_from_value : Addr} {d_plain_value d_told_at_once d_into_fn d_into_function d_onward_to_term d_onward_from_term d_onward_from_value : FuncData}
abbrev wto : List V := [.str "then", .str "one"]
def spOV : Sp := fun vs H Q _ => ∃ (v : Vl) (s : Sta) (r : Res) (D : List Dn) (most : Int) (gv sv : V), vs = [gv, sv, .int most] ∧ s.fo = .val v ∧ PgAt H D gv ∧ D.length ≤ 1000 ∧ StAt H s sv ∧ s.pile.length ≤ 10000 ∧ (∀ x ∈ s.pile, enLe x) ∧ step D most s = some r ∧ ∀ u H', Same H H' → ReAt H' r u → Q u H'
theorem ok_onward_from_value (F : Fun K "onward_from_value" "onward_from_value" s_onward_from_value f fd) (B : BV.NoG mg)
    (G_plain_value : FnOk P w K mg base CX0 4 f_plain_value d_plain_value ["value"] spPlain) (b_plain_value : Binds K d_plain_value ["value"] []) (k_plain_value : PySem.W.keepIn K (.ref f_plain_value) = true) (m_plain_value : mg "plain_value" = some (.ref f_plain_value))
    (G_told_at_once : FnOk P w K mg base CX0 3 f_told_at_once d_told_at_once ["top", "value"] spTold) (b_told_at_once : Binds K d_told_at_once ["top", "value"] []) (k_told_at_once : PySem.W.keepIn K (.ref f_told_at_once) = true) (m_told_at_once : mg "told_at_once" = some (.ref f_told_at_once))
    (G_into_fn : FnOk P w K mg base CX0 2 f_into_fn d_into_fn ["fn", "value", "rest", "most"] spIN) (b_into_fn : Binds K d_into_fn ["fn", "value", "rest", "most"] []) (k_into_fn : PySem.W.keepIn K (.ref f_into_fn) = true) (m_into_fn : mg "into_fn" = some (.ref f_into_fn))
    (G_into_function : FnOk P w K mg base CX0 2 f_into_function d_into_function ["program", "name", "values", "rest", "most"] spIF) (b_into_function : Binds K d_into_function ["program", "name", "values", "rest", "most"] []) (k_into_function : PySem.W.keepIn K (.ref f_into_function) = true) (m_into_function : mg "into_function" = some (.ref f_into_function))
    (G_onward_to_term : FnOk P w K mg base CX0 2 f_onward_to_term d_onward_to_term ["top", "value", "rest"] spTT) (b_onward_to_term : Binds K d_onward_to_term ["top", "value", "rest"] []) (k_onward_to_term : PySem.W.keepIn K (.ref f_onward_to_term) = true) (m_onward_to_term : mg "onward_to_term" = some (.ref f_onward_to_term)) :
    FnOk P w K mg base CX0 5 f fd ["program", "state", "most"] spOV := by
  refine F.ok sc_onward_from_value (fun vs H Q E h => ?_) (fun cdv A outer s H vs Q E hr h => ?_)
  · obtain ⟨v, s, r, D, most, gv, sv, rfl, _⟩ := h
    rfl
  obtain ⟨v, ⟨fo, pile, calls, deep⟩, r, D, most, gv, sv, rfl, hfo, hg, hgl, ⟨p, fv, lv, rfl, hp, hf, hl⟩, hz, hen, hst, q⟩ := h
  have hfo : fo = .val v := hfo
  subst hfo
  have hf0 := hf
  obtain ⟨pt, xv, rfl, hpt, hx⟩ := hf
  obtain ⟨lp, us, rfl, hlp, hus⟩ := hl
  have hz : pile.length ≤ 10000 := hz
  have nd := sc_onward_from_value.nd
  have hu := hr.units0
  have z4 : (4 : Nat) ≤ sizeLine := by decide
  refine ⟨_, (pss_cons (ps_set (i := 3) nd rfl (Or.inl rfl) (pe_ix (kIx (K := K) (w := w)) (pe_ix (kIx (K := K) (w := w)) (pv 1) pe_int (fun _ _ => rfl)) pe_int (fun _ _ => rfl)))
      (pss_cons (ps_set (i := 4) nd rfl (Or.inl rfl) (pe_ix (kIx (K := K) (w := w)) (pv 1) pe_int (fun _ _ => rfl)))
      (pss_cons (ps_if (pt_cmpR (kEq (K := K) hu) (pe_callB (k_len (K := K)) rfl B.len_ bt_len (pa_cons (pv 4) pa_nil)) pe_int rfl) (pss_one (ps_ret (pe_tup (pa_cons pe_str (pa_cons (pe_call G_plain_value (hr.mono (by first | decide | omega)) rfl m_plain_value k_plain_value b_plain_value .nil pass0 (pa_cons (pv 3) pa_nil)) pa_nil))))) pss_nil)
      (pss_cons (ps_set (i := 5) nd rfl (Or.inl rfl) (pe_ix (kIx (K := K) (w := w)) (pv 4) (pe_un un_neg pe_int) (fun _ _ => rfl)))
      (pss_cons (ps_set (i := 6) nd rfl (Or.inl rfl) (pe_op (kAddT (K := K)) (pe_tup (pa_cons (pe_slice (kSl (K := K)) (pv 4) po_none (po_some (pe_un un_neg pe_int))) pa_nil)) (pe_slice (kSl (K := K)) (pv 1) (po_some pe_int) po_none)))
      (pss_cons (ps_if (pt_cmpR (kEq (K := K) hu) (pe_ix (kIx (K := K) (w := w)) (pv 5) pe_int (fun _ _ => rfl)) pe_str rfl) (pss_one (ps_ret (pe_tup (pa_cons (pe_ix (kIx (K := K) (w := w)) (pv 1) pe_int (fun _ _ => rfl)) (pa_cons (pe_ix (kIx (K := K) (w := w)) (pv 6) pe_int (fun _ _ => rfl)) (pa_cons (pe_ix (kIx (K := K) (w := w)) (pv 6) pe_int (fun _ _ => rfl)) (pa_cons (pe_op op_sub (pe_ix (kIx (K := K) (w := w)) (pv 6) pe_int (fun _ _ => rfl)) pe_int) pa_nil))))))) pss_nil)
      (pss_cons (ps_if (pt_cmpR (kIn (K := K) (w := w)) (pe_ix (kIx (K := K) (w := w)) (pv 5) pe_int (fun _ _ => rfl)) (pe_tup (pa_cons pe_str (pa_cons pe_str pa_nil))) rfl) (pss_cons (ps_set (i := 7) nd rfl (Or.inl rfl) (pe_call G_told_at_once (hr.mono (by first | decide | omega)) rfl m_told_at_once k_told_at_once b_told_at_once .nil pass0 (pa_cons (pv 5) (pa_cons (pv 3) pa_nil))))
      (pss_one (ps_ret (pe_ifExp (pt_cmpR (kEq (K := K) hu) (pe_ix (kIx (K := K) (w := w)) (pv 7) pe_int (fun _ _ => rfl)) pe_str rfl) (pv 7) (pe_op (kAddT (K := K)) (pe_tup (pa_cons (pv 7) pa_nil)) (pv 6)))))) pss_nil)
      (pss_cons (ps_if (pt_cmpR (kEq (K := K) hu) (pe_ix (kIx (K := K) (w := w)) (pv 5) pe_int (fun _ _ => rfl)) pe_str rfl) (pss_one (ps_ret (pe_call G_into_fn (hr.mono (by first | decide | omega)) rfl m_into_fn k_into_fn b_into_fn .nil pass0 (pa_cons (pe_ix (kIx (K := K) (w := w)) (pv 5) pe_int (fun _ _ => rfl)) (pa_cons (pv 3) (pa_cons (pv 6) (pa_cons (pv 2) pa_nil))))))) pss_nil)
      (pss_cons (ps_cut (ps_if (PW.pt (pw_and (pt_cmpR (kEq (K := K) hu) (pe_ix (kIx (K := K) (w := w)) (pv 5) pe_int (fun _ _ => rfl)) pe_str rfl) (pw_and1 (pt_cmpR (kEq (K := K) hu) (pe_callB (k_len (K := K)) rfl B.len_ bt_len (pa_cons (pe_ix (kIx (K := K) (w := w)) (pv 5) pe_int (fun _ _ => rfl)) pa_nil)) pe_int rfl)))) (pss_one (ps_ret (pe_call G_into_function (hr.mono (by first | decide | omega)) rfl m_into_function k_into_function b_into_function .nil pass0 (pa_cons (pv 0) (pa_cons (pe_ix (kIx (K := K) (w := w)) (pv 5) pe_int (fun _ _ => rfl)) (pa_cons (pe_op (kAddT (K := K)) (pe_ix (kIx (K := K) (w := w)) (pv 5) pe_int (fun _ _ => rfl)) (pe_tup (pa_cons (pv 3) pa_nil))) (pa_cons (pv 6) (pa_cons (pv 2) pa_nil)))))))) pss_nil))
      (pss_one (ps_ret (pe_call G_onward_to_term (hr.mono (by first | decide | omega)) rfl m_onward_to_term k_onward_to_term b_onward_to_term .nil pass0 (pa_cons (pv 5) (pa_cons (pv 3) (pa_cons (pv 6) pa_nil))))))))))))))), ?_⟩
  refine ⟨_, rfl, .inr (.inl ⟨p, _, 0, _, rfl, rfl, SqT.of hp, rfl, .inr (.inl ⟨pt, _, 1, _, rfl, rfl, SqT.of hpt, rfl, ?_⟩)⟩)⟩
  refine ⟨_, rfl, .inr (.inl ⟨p, _, 1, _, rfl, rfl, SqT.of hp, rfl, ?_⟩)⟩
  cases pile with
  | nil =>
    cases hus
    cases v with
    | int n =>
      cases hx
      cases hst
      refine ⟨_, rfl, _, _, rfl, .inr ⟨_, SqT.of hlp, rfl⟩, .inl ⟨rfl, _, rfl, ifT (by decide) ?_⟩⟩
      exact ⟨_, rfl, n, rfl, fun H' sm => ⟨two2, fun a ha => q _ _ (sm.trans (same_new ha _)) ⟨a, rfl, upd_same⟩⟩⟩
    | _ => cases hst
  | cons fr r0 =>
    obtain ⟨u0, u, rfl, hu0, hfr⟩ := all2_snoc hus
    have hzl : r0.length ≤ 10000 := by simp only [List.length_cons] at hz; omega
    refine ⟨_, rfl, _, _, rfl, .inr ⟨_, SqT.of hlp, rfl⟩, .inl ⟨rfl, _, rfl, ifF ?_ ?_⟩⟩
    · simp
      omega
    refine ⟨_, rfl, 1, rfl, .inr (.inl ⟨lp, _, _, _, rfl, rfl, SqT.of hlp, atI_last _ _, ?_⟩)⟩
    refine ⟨_, rfl, 1, rfl, _, rfl, .inr ⟨lp, _, rfl, SqT.of hlp, last_not, fun a1 ha1 => ⟨one1, fun a2 ha2 => ?_⟩⟩⟩
    rw [cut_last] at ha2 ⊢
    have s1 := same_new ha1 (.tup u0)
    have s2 := same_new ha2 (.tup [.ref a1])
    have s12 := s1.trans s2
    refine ⟨_, rfl, _, rfl, .inr ⟨p, _, rfl, SqT.of (s12 _ _ hp), notWhole (by decide) (Nat.succ_pos _) _, fun a3 ha3 => ?_⟩⟩
    have s3 := same_new ha3 (.tup [.int calls, .int deep])
    refine .inr (.inl ⟨a2, a3, [.ref a1], [.int calls, .int deep], rfl, rfl, SqT.of (s3 _ _ upd_same), SqT.of upd_same, List.cons_ne_nil _ _, (by show 3 ≤ sizeLine; decide), fun z => absurd z (List.cons_ne_nil _ _), fun _ a4 ha4 => ?_⟩)
    have s4 := same_new ha4 (.tup [.ref a1, .int calls, .int deep])
    have sA : Same H (upd (upd (upd (upd H a1 (.tup u0)) a2 (.tup [.ref a1])) a3 (.tup [.int calls, .int deep])) a4 (.tup [.ref a1, .int calls, .int deep])) := s12.trans (s3.trans s4)
    have hp4 := sA _ _ hp
    have ha1' : (upd (upd (upd (upd H a1 (.tup u0)) a2 (.tup [.ref a1])) a3 (.tup [.int calls, .int deep])) a4 (.tup [.ref a1, .int calls, .int deep])) a1 = some (.tup u0) := (s2.trans (s3.trans s4)) _ _ (show (upd H a1 (.tup u0)) a1 = some (.tup u0) from upd_same)
    have ha4' : (upd (upd (upd (upd H a1 (.tup u0)) a2 (.tup [.ref a1])) a3 (.tup [.int calls, .int deep])) a4 (.tup [.ref a1, .int calls, .int deep])) a4 = some (.tup [.ref a1, .int calls, .int deep]) := upd_same
    have hRs : RsAt (upd (upd (upd (upd H a1 (.tup u0)) a2 (.tup [.ref a1])) a3 (.tup [.int calls, .int deep])) a4 (.tup [.ref a1, .int calls, .int deep])) r0 calls deep (.ref a4) := ⟨a4, .ref a1, rfl, ha4', a1, u0, rfl, ha1', hu0.imp fun _ _ h => FrAt.mono (tups_of sA) _ _ h⟩
    have hfr4 := FrAt.mono (tups_of sA) _ _ hfr
    have hx4 := VlAt.mono (tups_of sA) _ _ hx
    have hf4 := FoAt.mono (tups_of sA) _ _ hf0
    have hg4 := hg.mono (tups_of sA)
    have q4 : ∀ u H', Same (upd (upd (upd (upd H a1 (.tup u0)) a2 (.tup [.ref a1])) a3 (.tup [.int calls, .int deep])) a4 (.tup [.ref a1, .int calls, .int deep])) H' → ReAt H' r u → Q u H' := fun u H' sm h => q u H' (sA.trans sm) h
    show tSeq _ _ _ [some gv, some (.ref p), some (.int most), some xv, some (.ref lp), some u, some (.ref a4), none] (upd (upd (upd (upd H a1 (.tup u0)) a2 (.tup [.ref a1])) a3 (.tup [.int calls, .int deep])) a4 (.tup [.ref a1, .int calls, .int deep]))
    generalize upd (upd (upd (upd H a1 (.tup u0)) a2 (.tup [.ref a1])) a3 (.tup [.int calls, .int deep])) a4 (.tup [.ref a1, .int calls, .int deep]) = H4 at hp4 ha1' ha4' hRs hfr4 hx4 hf4 hg4 q4 ⊢
    have hen1 : enLe fr := hen fr (List.mem_cons_self ..)
    obtain ⟨a, rest, rfl, ha⟩ := hfr4.word
    have hat : atI (V.str (frW fr) :: rest) ((0 : Nat) : Int) = some (.str (frW fr)) := atI_nat rfl
    refine ⟨_, rfl, .inr (.inl ⟨a, _, 0, _, rfl, rfl, SqT.of ha, hat, .inl ⟨rfl, _, rfl, ?_⟩⟩)⟩
    cases fr with
    | back =>
      have hst' : some (Res.st ⟨.val v, r0, calls, deep - 1⟩) = some r := by cases v <;> exact hst
      cases hst'
      refine ifT rfl ?_
      refine ⟨_, rfl, .inr (.inl ⟨p, _, 0, _, rfl, rfl, SqT.of hp4, rfl, _, rfl, .inr (.inl ⟨a4, _, 0, _, rfl, rfl, SqT.of ha4', rfl, _, rfl, .inr (.inl ⟨a4, _, 1, _, rfl, rfl, SqT.of ha4', rfl, _, rfl, .inr (.inl ⟨a4, _, 2, _, rfl, rfl, SqT.of ha4', rfl, _, _, rfl, rfl, z4, fun a5 ha5 => ?_⟩)⟩)⟩)⟩)⟩
      have s5 := same_new ha5 (.tup [.ref pt, .ref a1, .int calls, .int (deep - 1)])
      obtain ⟨p9, l9, e9, hp9, hl9⟩ := hRs
      cases e9
      rw [ha4'] at hp9
      cases hp9
      exact q4 _ _ s5 ⟨a5, .ref pt, .ref a1, rfl, upd_same, FoAt.mono (tups_of s5) _ _ hf4, hl9.mono (tups_of s5)⟩
    | then_ g n =>
      obtain ⟨p9, e9, hp9⟩ := hfr4
      cases e9
      cases v with
      | int m =>
        cases hx4
        obtain ⟨v2, hv2, rfl⟩ := Option.map_eq_some_iff.mp (show (told g n m).map _ = some r from hst)
        refine ifF Bool.false_ne_true ?_
        refine ⟨_, rfl, .inr (.inl ⟨a, _, 0, _, rfl, rfl, SqT.of hp9, rfl, two2, fun b hb => .inr (.inl ⟨b, wto, rfl, .inr (SqT.of upd_same), rfl, rfl, _, rfl, ifT rfl ?_⟩)⟩)⟩
        have s5 := same_new hb (.tup wto)
        refine ⟨_, rfl, _, rfl, a, g, n, m, v2, rfl, s5 _ _ hp9, hv2, fun p6 u6 H6 s6 hp6 hv6 => ?_⟩
        refine ⟨_, rfl, .inr (.inl ⟨p6, _, 0, _, rfl, rfl, SqT.of hp6, rfl, .inl ⟨rfl, _, rfl, ifF Bool.false_ne_true ⟨_, rfl, one1, fun a7 ha7 => ⟨_, rfl, .inr (.inl ?_)⟩⟩⟩⟩)⟩
        have s7 := same_new ha7 (.tup [.ref p6])
        have s57 := s5.trans (s6.trans s7)
        exact cat_rest (fo := .val v2) ⟨p6, u6, rfl, s7 _ _ hp6, VlAt.mono (tups_of s7) _ _ hv6⟩ upd_same (hRs.mono (tups_of s57)) fun u H' sm h => q4 u H' (s57.trans sm) h
      | _ => cases hst
    | with_ z b e =>
      obtain ⟨p9, u9, e9, hp9, hv9⟩ := hfr4
      cases e9
      cases v with
      | int m =>
        cases hx4
        cases hst
        refine ifF Bool.false_ne_true ?_
        refine ⟨_, rfl, .inr (.inl ⟨a, _, 0, _, rfl, rfl, SqT.of hp9, rfl, two2, fun b5 hb5 => .inr (.inl ⟨b5, wto, rfl, .inr (SqT.of upd_same), rfl, rfl, _, rfl, ifF Bool.false_ne_true ?_⟩)⟩)⟩
        have s5 := same_new hb5 (.tup wto)
        refine ⟨_, rfl, .inr (.inl ⟨a, _, 0, _, rfl, rfl, SqT.of (s5 _ _ hp9), rfl, .inl ⟨rfl, _, rfl, ifT rfl ?_⟩⟩)⟩
        exact ⟨_, rfl, .inr (.inl ⟨a, _, 1, _, rfl, rfl, SqT.of (s5 _ _ hp9), rfl, _, rfl, _, rfl, _, rfl, z, b, e, m, r0, calls, deep, most, u9, .ref a4, rfl, VlAt.mono (tups_of s5) _ _ hv9, hen1, hRs.mono (tups_of s5), hzl, fun u H' sm h => q4 u H' (s5.trans sm) h⟩)⟩
      | _ => cases hst
    | call z e =>
      obtain ⟨p9, q9, r9, w9, e9, hp9, hq9, hr9, he9⟩ := hfr4
      cases e9
      cases v with
      | int m =>
        cases hx4
        obtain ⟨d, hd, rfl⟩ := Option.map_eq_some_iff.mp (show (D.find? fun d => d.name == z).map _ = some r from hst)
        refine ifF Bool.false_ne_true ?_
        refine ⟨_, rfl, .inr (.inl ⟨a, _, 0, _, rfl, rfl, SqT.of hp9, rfl, two2, fun b5 hb5 => .inr (.inl ⟨b5, wto, rfl, .inr (SqT.of upd_same), rfl, rfl, _, rfl, ifF Bool.false_ne_true ?_⟩)⟩)⟩
        have s5 := same_new hb5 (.tup wto)
        refine ⟨_, rfl, .inr (.inl ⟨a, _, 0, _, rfl, rfl, SqT.of (s5 _ _ hp9), rfl, .inl ⟨rfl, _, rfl, ifF Bool.false_ne_true ?_⟩⟩)⟩
        refine ⟨fun _ _ => False, ?_, fun _ _ z => z.elim⟩
        refine ⟨_, rfl, .inr (.inl ⟨a, _, 0, _, rfl, rfl, SqT.of (s5 _ _ hp9), rfl, .inl ⟨rfl, _, rfl, ifT rfl ⟨_, rfl, .inr (.inl ⟨a, _, 3, _, rfl, rfl, SqT.of (s5 _ _ hp9), rfl, _, _, rfl, .inr ⟨_, SqT.of (s5 _ _ hr9), rfl⟩, .inl ⟨rfl, _, rfl, ifT (by decide) ?_⟩⟩)⟩⟩⟩)⟩
        refine ⟨_, rfl, _, rfl, .inr (.inl ⟨a, _, 1, _, rfl, rfl, SqT.of (s5 _ _ hp9), rfl, _, rfl, .inr (.inl ⟨a, _, 2, _, rfl, rfl, SqT.of (s5 _ _ hp9), rfl, _, rfl, one1, fun a6 ha6 => ?_⟩)⟩)⟩
        have s6 := s5.trans (same_new ha6 (.tup [.int m]))
        refine .inr (.inr ⟨q9, a6, _, rfl, rfl, SqT.of (s6 _ _ hq9), SqT.of upd_same, ?_⟩)
        exact ⟨_, rfl, _, rfl, D, d, z, m, r0, calls, deep, most, gv, .ref a4, a6, rfl, hg4.mono (tups_of s6), hgl, hd, upd_same, hRs.mono (tups_of s6), hzl, fun u H' sm h => q4 u H' (s6.trans sm) h⟩
      | _ => cases hst
    | two g t e =>
      have hy : ∃ y, toT (.two g t e) v = some y ∧ Res.st ⟨y.1, y.2 ++ r0, calls, deep⟩ = r := by
        cases v <;> first | exact ⟨_, rfl, Option.some.inj hst⟩ | (cases hst; done)
      obtain ⟨y, hy, rfl⟩ := hy
      refine ifF Bool.false_ne_true ?_
      refine ⟨_, rfl, .inr (.inl ⟨a, _, 0, _, rfl, rfl, SqT.of ha, hat, two2, fun b5 hb5 => .inr (.inl ⟨b5, wto, rfl, .inr (SqT.of upd_same), rfl, rfl, _, rfl, ifF Bool.false_ne_true ?_⟩)⟩)⟩
      have s5 := same_new hb5 (.tup wto)
      refine ⟨_, rfl, .inr (.inl ⟨a, _, 0, _, rfl, rfl, SqT.of (s5 _ _ ha), hat, .inl ⟨rfl, _, rfl, ifF Bool.false_ne_true ?_⟩⟩)⟩
      refine ⟨fun σ H' => σ = [some gv, some (.ref p), some (.int most), some xv, some (.ref lp), some (.ref a), some (.ref a4), none] ∧ upd H4 b5 (.tup wto) = H', ?_, ?_⟩
      · exact ⟨_, rfl, .inr (.inl ⟨a, _, 0, _, rfl, rfl, SqT.of (s5 _ _ ha), hat, .inl ⟨rfl, _, rfl, ifF Bool.false_ne_true (ifF Bool.false_ne_true ⟨rfl, rfl⟩)⟩⟩)⟩
      rintro σ H' ⟨rfl, rfl⟩
      exact ⟨_, rfl, _, rfl, _, rfl, .two g t e, v, y, r0, calls, deep, .ref a, xv, .ref a4, rfl, FrAt.mono (tups_of s5) _ _ hfr4, VlAt.mono (tups_of s5) _ _ hx4, hy, hen1, hRs.mono (tups_of s5), hzl, fun u H' sm h => q4 u H' (s5.trans sm) h⟩
    | ite x1 x2 e =>
      have hy : ∃ y, toT (.ite x1 x2 e) v = some y ∧ Res.st ⟨y.1, y.2 ++ r0, calls, deep⟩ = r := by
        cases v <;> first | exact ⟨_, rfl, Option.some.inj hst⟩ | (cases hst; done)
      obtain ⟨y, hy, rfl⟩ := hy
      refine ifF Bool.false_ne_true ?_
      refine ⟨_, rfl, .inr (.inl ⟨a, _, 0, _, rfl, rfl, SqT.of ha, hat, two2, fun b5 hb5 => .inr (.inl ⟨b5, wto, rfl, .inr (SqT.of upd_same), rfl, rfl, _, rfl, ifF Bool.false_ne_true ?_⟩)⟩)⟩
      have s5 := same_new hb5 (.tup wto)
      refine ⟨_, rfl, .inr (.inl ⟨a, _, 0, _, rfl, rfl, SqT.of (s5 _ _ ha), hat, .inl ⟨rfl, _, rfl, ifF Bool.false_ne_true ?_⟩⟩)⟩
      refine ⟨fun σ H' => σ = [some gv, some (.ref p), some (.int most), some xv, some (.ref lp), some (.ref a), some (.ref a4), none] ∧ upd H4 b5 (.tup wto) = H', ?_, ?_⟩
      · exact ⟨_, rfl, .inr (.inl ⟨a, _, 0, _, rfl, rfl, SqT.of (s5 _ _ ha), hat, .inl ⟨rfl, _, rfl, ifF Bool.false_ne_true (ifF Bool.false_ne_true ⟨rfl, rfl⟩)⟩⟩)⟩
      rintro σ H' ⟨rfl, rfl⟩
      exact ⟨_, rfl, _, rfl, _, rfl, .ite x1 x2 e, v, y, r0, calls, deep, .ref a, xv, .ref a4, rfl, FrAt.mono (tups_of s5) _ _ hfr4, VlAt.mono (tups_of s5) _ _ hx4, hy, hen1, hRs.mono (tups_of s5), hzl, fun u H' sm h => q4 u H' (s5.trans sm) h⟩
    | let_ z b e =>
      have hy : ∃ y, toT (.let_ z b e) v = some y ∧ Res.st ⟨y.1, y.2 ++ r0, calls, deep⟩ = r := by
        cases v <;> first | exact ⟨_, rfl, Option.some.inj hst⟩ | (cases hst; done)
      obtain ⟨y, hy, rfl⟩ := hy
      refine ifF Bool.false_ne_true ?_
      refine ⟨_, rfl, .inr (.inl ⟨a, _, 0, _, rfl, rfl, SqT.of ha, hat, two2, fun b5 hb5 => .inr (.inl ⟨b5, wto, rfl, .inr (SqT.of upd_same), rfl, rfl, _, rfl, ifF Bool.false_ne_true ?_⟩)⟩)⟩
      have s5 := same_new hb5 (.tup wto)
      refine ⟨_, rfl, .inr (.inl ⟨a, _, 0, _, rfl, rfl, SqT.of (s5 _ _ ha), hat, .inl ⟨rfl, _, rfl, ifF Bool.false_ne_true ?_⟩⟩)⟩
      refine ⟨fun σ H' => σ = [some gv, some (.ref p), some (.int most), some xv, some (.ref lp), some (.ref a), some (.ref a4), none] ∧ upd H4 b5 (.tup wto) = H', ?_, ?_⟩
      · exact ⟨_, rfl, .inr (.inl ⟨a, _, 0, _, rfl, rfl, SqT.of (s5 _ _ ha), hat, .inl ⟨rfl, _, rfl, ifF Bool.false_ne_true (ifF Bool.false_ne_true ⟨rfl, rfl⟩)⟩⟩)⟩
      rintro σ H' ⟨rfl, rfl⟩
      exact ⟨_, rfl, _, rfl, _, rfl, .let_ z b e, v, y, r0, calls, deep, .ref a, xv, .ref a4, rfl, FrAt.mono (tups_of s5) _ _ hfr4, VlAt.mono (tups_of s5) _ _ hx4, hy, hen1, hRs.mono (tups_of s5), hzl, fun u H' sm h => q4 u H' (s5.trans sm) h⟩
    | do_ t e =>
      have hy : ∃ y, toT (.do_ t e) v = some y ∧ Res.st ⟨y.1, y.2 ++ r0, calls, deep⟩ = r := by
        cases v <;> first | exact ⟨_, rfl, Option.some.inj hst⟩ | (cases hst; done)
      obtain ⟨y, hy, rfl⟩ := hy
      refine ifF Bool.false_ne_true ?_
      refine ⟨_, rfl, .inr (.inl ⟨a, _, 0, _, rfl, rfl, SqT.of ha, hat, two2, fun b5 hb5 => .inr (.inl ⟨b5, wto, rfl, .inr (SqT.of upd_same), rfl, rfl, _, rfl, ifF Bool.false_ne_true ?_⟩)⟩)⟩
      have s5 := same_new hb5 (.tup wto)
      refine ⟨_, rfl, .inr (.inl ⟨a, _, 0, _, rfl, rfl, SqT.of (s5 _ _ ha), hat, .inl ⟨rfl, _, rfl, ifF Bool.false_ne_true ?_⟩⟩)⟩
      refine ⟨fun σ H' => σ = [some gv, some (.ref p), some (.int most), some xv, some (.ref lp), some (.ref a), some (.ref a4), none] ∧ upd H4 b5 (.tup wto) = H', ?_, ?_⟩
      · exact ⟨_, rfl, .inr (.inl ⟨a, _, 0, _, rfl, rfl, SqT.of (s5 _ _ ha), hat, .inl ⟨rfl, _, rfl, ifF Bool.false_ne_true (ifF Bool.false_ne_true ⟨rfl, rfl⟩)⟩⟩)⟩
      rintro σ H' ⟨rfl, rfl⟩
      exact ⟨_, rfl, _, rfl, _, rfl, .do_ t e, v, y, r0, calls, deep, .ref a, xv, .ref a4, rfl, FrAt.mono (tups_of s5) _ _ hfr4, VlAt.mono (tups_of s5) _ _ hx4, hy, hen1, hRs.mono (tups_of s5), hzl, fun u H' sm h => q4 u H' (s5.trans sm) h⟩
def spOn : Sp := fun vs H Q _ => ∃ (s : Sta) (r : Res) (D : List Dn) (most : Int) (gv sv : V), vs = [gv, sv, .int most] ∧ PgAt H D gv ∧ D.length ≤ 1000 ∧ StAt H s sv ∧ s.pile.length ≤ 10000 ∧ (∀ x ∈ s.pile, enLe x) ∧ (∀ t e, s.fo = .term t e → e.length ≤ 1000) ∧ step D most s = some r ∧ ∀ u H', Same H H' → ReAt H' r u → Q u H'
theorem ok_onward (F : Fun K "onward" "onward" s_onward f fd)
    (G_onward_from_term : FnOk P w K mg base CX0 3 f_onward_from_term d_onward_from_term ["program", "state", "most"] spOT) (b_onward_from_term : Binds K d_onward_from_term ["program", "state", "most"] []) (k_onward_from_term : PySem.W.keepIn K (.ref f_onward_from_term) = true) (m_onward_from_term : mg "onward_from_term" = some (.ref f_onward_from_term))
    (G_onward_from_value : FnOk P w K mg base CX0 5 f_onward_from_value d_onward_from_value ["program", "state", "most"] spOV) (b_onward_from_value : Binds K d_onward_from_value ["program", "state", "most"] []) (k_onward_from_value : PySem.W.keepIn K (.ref f_onward_from_value) = true) (m_onward_from_value : mg "onward_from_value" = some (.ref f_onward_from_value)) :
    FnOk P w K mg base CX0 6 f fd ["program", "state", "most"] spOn := by
  refine F.ok sc_onward (fun vs H Q E h => ?_) (fun cdv A outer s H vs Q E hr h => ?_)
  · obtain ⟨s, r, D, most, gv, sv, rfl, _⟩ := h
    rfl
  obtain ⟨⟨fo, pile, calls, deep⟩, r, D, most, gv, sv, rfl, hg, hgl, hs, hz, hen, hte, hst, q⟩ := h
  have hs0 := hs
  obtain ⟨p, fv, lv, rfl, hp, hf, hl⟩ := hs
  have nd := sc_onward.nd
  have hu := hr.units0
  refine ⟨_, (pss_cons (ps_if (pt_cmpR (kEq (K := K) hu) (pe_ix (kIx (K := K) (w := w)) (pe_ix (kIx (K := K) (w := w)) (pv 1) pe_int (fun _ _ => rfl)) pe_int (fun _ _ => rfl)) pe_str rfl) (pss_one (ps_ret (pe_call G_onward_from_term (hr.mono (by first | decide | omega)) rfl m_onward_from_term k_onward_from_term b_onward_from_term .nil pass0 (pa_cons (pv 0) (pa_cons (pv 1) (pa_cons (pv 2) pa_nil)))))) pss_nil)
      (pss_one (ps_ret (pe_call G_onward_from_value (hr.mono (by first | decide | omega)) rfl m_onward_from_value k_onward_from_value b_onward_from_value .nil pass0 (pa_cons (pv 0) (pa_cons (pv 1) (pa_cons (pv 2) pa_nil))))))), ?_⟩
  cases fo with
  | term t e =>
    obtain ⟨pt, tv, ev, rfl, hpt, ht, he⟩ := hf
    refine ⟨_, rfl, .inr (.inl ⟨p, _, 0, _, rfl, rfl, SqT.of hp, rfl, .inr (.inl ⟨pt, _, 0, _, rfl, rfl, SqT.of hpt, rfl, .inl ⟨rfl, _, rfl, ifT rfl ?_⟩⟩)⟩)⟩
    exact ⟨_, rfl, _, rfl, _, rfl, t, e, _, r, D, most, gv, .ref p, .int most, rfl, rfl, hs0, hz, hte t e rfl, hst, q⟩
  | val v =>
    obtain ⟨pt, xv, rfl, hpt, hx⟩ := hf
    refine ⟨_, rfl, .inr (.inl ⟨p, _, 0, _, rfl, rfl, SqT.of hp, rfl, .inr (.inl ⟨pt, _, 0, _, rfl, rfl, SqT.of hpt, rfl, .inl ⟨rfl, _, rfl, ifF Bool.false_ne_true ?_⟩⟩)⟩)⟩
    exact ⟨_, rfl, _, rfl, _, rfl, v, _, r, D, most, gv, .ref p, rfl, rfl, hg, hgl, hs0, hz, hen, hst, q⟩
end
end RK
/-! how many calls: dry, deep, or the number -/
namespace RK
open PySem L2 BV
def Okk (s : Sta) : Prop := s.pile.length ≤ 10000 ∧ (∀ x ∈ s.pile, enLe x) ∧ ∀ t e, s.fo = .term t e → e.length ≤ 1000
/-- a run of steps, all of whose states are small -/
inductive Go (D : List Dn) (most : Int) : Sta → Res → Prop
  | here (s : Sta) : Go D most s (.st s)
  | one {s s' : Sta} {r : Res} : Okk s → step D most s = some (.st s') → Go D most s' r → Go D most s r
  | fin {s : Sta} {r : Res} : Okk s → step D most s = some r → Go D most s r
theorem Go.trans {D : List Dn} {most : Int} {s s' : Sta} {r : Res} (h : Go D most s (.st s')) (h' : Go D most s' r) : Go D most s r := by
  generalize e : Res.st s' = q at h
  induction h with
  | here => cases e; exact h'
  | one o k _ ih => exact .one o k (ih e)
  | fin o k => subst e; exact .one o k h'
def fails (most : Int) : Nat → Int → Int → Option Res
  | 0, _, _ => none
  | k + 1, c, d => if most ≤ c then some .dry else if 60 ≤ d then some .deep else fails most k (c + 1) (d + 1)
def less : Tm := .two "-" (.name "n") (.num 1)
def again : Nat → Tm
  | 0 => .call "f" less
  | 1 => .do_ (.fn "k" (.call "f" (.name "k"))) less
  | _ => .call "g" less
def bodyF (way : Nat) : Tm := .ite (.two "<" (.name "n") (.num 1)) (.num 0) (.two "+" (.num 1) (again way))
def first : Nat → Tm
  | 0 => .call "f" (.name "n")
  | 1 => .two "+" (.call "f" (.name "n")) (.call "f" (.name "n"))
  | _ => .let_ "m" (.call "f" (.name "n")) (.call "f" (.name "m"))
def prog (way twice : Nat) : List Dn := [⟨"f", "n", bodyF way⟩, ⟨"g", "n", .call "f" (.name "n")⟩, ⟨"main", "n", first twice⟩]
def foLe : Fo → Prop
  | .term _ e => e.length ≤ 1000
  | .val _ => True
theorem okk_of {fo : Fo} {P : List Fr} {c d : Int} (fs : List Fr) (hl : fs.length + P.length ≤ 10000) (h1 : ∀ x ∈ fs, enLe x) (hP : ∀ x ∈ P, enLe x) (hf : foLe fo) : Okk ⟨fo, fs ++ P, c, d⟩ :=
  ⟨by show (fs ++ P).length ≤ 10000; rw [List.length_append]; exact hl, fun x hx => (List.mem_append.mp hx).elim (h1 x) (hP x), fun t e h => by subst h; exact hf⟩
theorem go_of {D : List Dn} {most : Int} {fo : Fo} {P : List Fr} {c d : Int} (fs : List Fr) {s' : Sta} {r : Res} (hl : fs.length + P.length ≤ 10000) (h1 : ∀ x ∈ fs, enLe x) (hP : ∀ x ∈ P, enLe x) (hf : foLe fo)
    (hs : step D most ⟨fo, fs ++ P, c, d⟩ = some (.st s')) (h : Go D most s' r) : Go D most ⟨fo, fs ++ P, c, d⟩ r := .one (okk_of fs hl h1 hP hf) hs h
theorem call_f0 {twice : Nat} {most : Int} : ∀ (n : Nat) (c d : Int) (e : En) (P : List Fr), P.length + 4 * n + 20 ≤ 10000 → n ≤ 1000 → (∀ x ∈ P, enLe x) →
    match fails most (1 + n) c d with
    | some r => Go (prog 0 twice) most ⟨.val (.int n), .call "f" e :: P, c, d⟩ r
    | none => Go (prog 0 twice) most ⟨.val (.int n), .call "f" e :: P, c, d⟩ (.st ⟨.val (.int n), P, c + 1 + n, d⟩)
  | n, c, d, e, P, hl, hn, hP => by
    rw [Nat.add_comm]
    simp only [fails]
    have st0 : step (prog 0 twice) most ⟨.val (.int n), .call "f" e :: P, c, d⟩ = some (into most (bodyF 0) [("n", (n : Int))] P c d) := rfl
    have ok0 : Okk ⟨.val (.int n), .call "f" e :: P, c, d⟩ := okk_of [.call "f" e] (by show 1 + P.length ≤ 10000; omega) (by simp [enLe]) hP trivial
    by_cases h1 : most ≤ c
    · rw [if_pos h1]
      exact .fin ok0 (by rw [st0]; unfold into; rw [if_pos h1])
    rw [if_neg h1]
    by_cases h2 : 60 ≤ d
    · rw [if_pos h2]
      exact .fin ok0 (by rw [st0]; unfold into; rw [if_neg h1, if_pos h2])
    rw [if_neg h2]
    have st1 : step (prog 0 twice) most ⟨.val (.int n), .call "f" e :: P, c, d⟩ = some (.st ⟨.term (bodyF 0) [("n", (n : Int))], .back :: P, c + 1, d + 1⟩) := by
      rw [st0]; unfold into; rw [if_neg h1, if_neg h2]
    have nl : foLe (.term (bodyF 0) [("n", (n : Int))]) := by show 1 ≤ 1000; decide
    have L : ∀ k : Nat, k ≤ 10 → k + P.length ≤ 10000 := fun k hk => by omega
    have test : ∀ r, Go (prog 0 twice) most ⟨.val (.bl (decide ((n : Int) < 1))), [.ite (.num 0) (.two "+" (.num 1) (again 0)) [("n", (n : Int))], .back] ++ P, c + 1, d + 1⟩ r → Go (prog 0 twice) most ⟨.val (.int n), .call "f" e :: P, c, d⟩ r := fun r h => by
      refine .one ok0 st1 ?_
      refine go_of [.back] (L 1 (by decide)) (by simp [enLe]) hP nl rfl ?_
      refine go_of [.ite _ _ _, .back] (L 2 (by decide)) (by simp [enLe]) hP nl rfl ?_
      refine go_of [.two _ _ _, .ite _ _ _, .back] (L 3 (by decide)) (by simp [enLe]) hP nl rfl ?_
      refine go_of [.two _ _ _, .ite _ _ _, .back] (L 3 (by decide)) (by simp [enLe]) hP trivial rfl ?_
      refine go_of [.then_ _ _, .ite _ _ _, .back] (L 3 (by decide)) (by simp [enLe]) hP nl rfl ?_
      exact go_of [.then_ _ _, .ite _ _ _, .back] (L 3 (by decide)) (by simp [enLe]) hP trivial rfl h
    cases n with
    | zero =>
      simp only [fails]
      refine test _ ?_
      refine go_of [.ite _ _ _, .back] (L 2 (by decide)) (by simp [enLe]) hP trivial rfl ?_
      refine go_of [.back] (L 1 (by decide)) (by simp [enLe]) hP nl rfl ?_
      refine go_of [.back] (L 1 (by decide)) (by simp [enLe]) hP trivial rfl ?_
      rw [show d + 1 - 1 = d by omega, show c + 1 + ((0 : Nat) : Int) = c + 1 by omega]
      exact .here _
    | succ n =>
      have hlt : decide (((n + 1 : Nat) : Int) < 1) = false := decide_eq_false (by omega)
      rw [hlt] at test
      have to : ∀ r, Go (prog 0 twice) most ⟨.val (.int n), .call "f" [("n", ((n + 1 : Nat) : Int))] :: .then_ "+" 1 :: .back :: P, c + 1, d + 1⟩ r → Go (prog 0 twice) most ⟨.val (.int (n + 1 : Nat)), .call "f" e :: P, c, d⟩ r := fun r h => by
        refine test _ ?_
        refine go_of [.ite _ _ _, .back] (L 2 (by decide)) (by simp [enLe]) hP trivial rfl ?_
        refine go_of [.back] (L 1 (by decide)) (by simp [enLe]) hP nl rfl ?_
        refine go_of [.two _ _ _, .back] (L 2 (by decide)) (by simp [enLe]) hP nl rfl ?_
        refine go_of [.two _ _ _, .back] (L 2 (by decide)) (by simp [enLe]) hP trivial rfl ?_
        refine go_of [.then_ _ _, .back] (L 2 (by decide)) (by simp [enLe]) hP nl rfl ?_
        refine go_of [.call _ _, .then_ _ _, .back] (L 3 (by decide)) (by simp [enLe]) hP nl rfl ?_
        refine go_of [.two _ _ _, .call _ _, .then_ _ _, .back] (L 4 (by decide)) (by simp [enLe]) hP nl rfl ?_
        refine go_of [.two _ _ _, .call _ _, .then_ _ _, .back] (L 4 (by decide)) (by simp [enLe]) hP trivial rfl ?_
        refine go_of [.then_ _ _, .call _ _, .then_ _ _, .back] (L 4 (by decide)) (by simp [enLe]) hP nl rfl ?_
        refine go_of [.then_ _ _, .call _ _, .then_ _ _, .back] (s' := ⟨.val (.int n), [.call _ _, .then_ _ _, .back] ++ P, c + 1, d + 1⟩) (L 4 (by decide)) (by simp [enLe]) hP trivial ?_ h
        have e1 : told "-" ((n + 1 : Nat) : Int) 1 = some (.int n) := by
          unfold told great
          rw [if_neg (by decide), if_neg (by decide), if_pos rfl, if_pos (by omega), show ((n + 1 : Nat) : Int) - 1 = n by omega]
        show (told "-" ((n + 1 : Nat) : Int) 1).map _ = _
        rw [e1]
        rfl
      have ih := call_f0 (twice := twice) (most := most) n (c + 1) (d + 1) [("n", ((n + 1 : Nat) : Int))] (.then_ "+" 1 :: .back :: P) (by simp only [List.length_cons]; omega) (by omega) (fun x hx => by
        rcases List.mem_cons.mp hx with rfl | hx
        · trivial
        rcases List.mem_cons.mp hx with rfl | hx
        · trivial
        · exact hP x hx)
      rw [Nat.add_comm] at ih
      cases hf : fails most (n + 1) (c + 1) (d + 1) with
      | some r =>
        rw [hf] at ih
        exact to r ih
      | none =>
        rw [hf] at ih
        refine to _ (ih.trans ?_)
        refine go_of [.then_ _ _, .back] (s' := ⟨.val (.int (n + 1 : Nat)), [.back] ++ P, c + 1 + 1 + n, d + 1⟩) (L 2 (by decide)) (by simp [enLe]) hP trivial ?_ ?_
        · have e1 : told "+" 1 (n : Int) = some (.int (n + 1 : Nat)) := by
            unfold told great
            rw [if_neg (by decide), if_pos rfl, if_pos (by omega), show (1 : Int) + n = (n + 1 : Nat) by omega]
          show (told "+" 1 (n : Int)).map _ = _
          rw [e1]
          rfl
        refine go_of [.back] (L 1 (by decide)) (by simp [enLe]) hP trivial rfl ?_
        rw [show d + 1 - 1 = d by omega, show c + 1 + 1 + (n : Int) = c + 1 + ((n + 1 : Nat) : Int) by omega]
        exact .here _
end RK
namespace RK
open PySem L2 BV
theorem fails_succ {most : Int} {k : Nat} {c d : Int} : fails most (k + 1) c d = if most ≤ c then some .dry else if 60 ≤ d then some .deep else fails most k (c + 1) (d + 1) := rfl
theorem call_f1 {twice : Nat} {most : Int} : ∀ (n : Nat) (c d : Int) (e : En) (P : List Fr), P.length + 4 * n + 20 ≤ 10000 → n ≤ 1000 → (∀ x ∈ P, enLe x) →
    match fails most (1 + 2 * n) c d with
    | some r => Go (prog 1 twice) most ⟨.val (.int n), .call "f" e :: P, c, d⟩ r
    | none => Go (prog 1 twice) most ⟨.val (.int n), .call "f" e :: P, c, d⟩ (.st ⟨.val (.int n), P, c + 1 + 2 * n, d⟩)
  | n, c, d, e, P, hl, hn, hP => by
    rw [Nat.add_comm]
    simp only [fails]
    have st0 : step (prog 1 twice) most ⟨.val (.int n), .call "f" e :: P, c, d⟩ = some (into most (bodyF 1) [("n", (n : Int))] P c d) := rfl
    have ok0 : Okk ⟨.val (.int n), .call "f" e :: P, c, d⟩ := okk_of [.call "f" e] (by show 1 + P.length ≤ 10000; omega) (by simp [enLe]) hP trivial
    by_cases h1 : most ≤ c
    · rw [if_pos h1]
      exact .fin ok0 (by rw [st0]; unfold into; rw [if_pos h1])
    rw [if_neg h1]
    by_cases h2 : 60 ≤ d
    · rw [if_pos h2]
      exact .fin ok0 (by rw [st0]; unfold into; rw [if_neg h1, if_pos h2])
    rw [if_neg h2]
    have st1 : step (prog 1 twice) most ⟨.val (.int n), .call "f" e :: P, c, d⟩ = some (.st ⟨.term (bodyF 1) [("n", (n : Int))], .back :: P, c + 1, d + 1⟩) := by
      rw [st0]; unfold into; rw [if_neg h1, if_neg h2]
    have nl : foLe (.term (bodyF 1) [("n", (n : Int))]) := by show 1 ≤ 1000; decide
    have L : ∀ k : Nat, k ≤ 10 → k + P.length ≤ 10000 := fun k hk => by omega
    have test : ∀ r, Go (prog 1 twice) most ⟨.val (.bl (decide ((n : Int) < 1))), [.ite (.num 0) (.two "+" (.num 1) (again 1)) [("n", (n : Int))], .back] ++ P, c + 1, d + 1⟩ r → Go (prog 1 twice) most ⟨.val (.int n), .call "f" e :: P, c, d⟩ r := fun r h => by
      refine .one ok0 st1 ?_
      refine go_of [.back] (L 1 (by decide)) (by simp [enLe]) hP nl rfl ?_
      refine go_of [.ite _ _ _, .back] (L 2 (by decide)) (by simp [enLe]) hP nl rfl ?_
      refine go_of [.two _ _ _, .ite _ _ _, .back] (L 3 (by decide)) (by simp [enLe]) hP nl rfl ?_
      refine go_of [.two _ _ _, .ite _ _ _, .back] (L 3 (by decide)) (by simp [enLe]) hP trivial rfl ?_
      refine go_of [.then_ _ _, .ite _ _ _, .back] (L 3 (by decide)) (by simp [enLe]) hP nl rfl ?_
      exact go_of [.then_ _ _, .ite _ _ _, .back] (L 3 (by decide)) (by simp [enLe]) hP trivial rfl h
    cases n with
    | zero =>
      simp only [fails]
      refine test _ ?_
      refine go_of [.ite _ _ _, .back] (L 2 (by decide)) (by simp [enLe]) hP trivial rfl ?_
      refine go_of [.back] (L 1 (by decide)) (by simp [enLe]) hP nl rfl ?_
      refine go_of [.back] (L 1 (by decide)) (by simp [enLe]) hP trivial rfl ?_
      rw [show d + 1 - 1 = d by omega, show c + 1 + 2 * ((0 : Nat) : Int) = c + 1 by omega]
      exact .here _
    | succ n =>
      have hlt : decide (((n + 1 : Nat) : Int) < 1) = false := decide_eq_false (by omega)
      rw [hlt] at test
      have to : ∀ r, Go (prog 1 twice) most ⟨.val (.int n), [.with_ "k" (.call "f" (.name "k")) [("n", ((n + 1 : Nat) : Int))], .then_ "+" 1, .back] ++ P, c + 1, d + 1⟩ r → Go (prog 1 twice) most ⟨.val (.int (n + 1 : Nat)), .call "f" e :: P, c, d⟩ r := fun r h => by
        refine test _ ?_
        refine go_of [.ite _ _ _, .back] (L 2 (by decide)) (by simp [enLe]) hP trivial rfl ?_
        refine go_of [.back] (L 1 (by decide)) (by simp [enLe]) hP nl rfl ?_
        refine go_of [.two _ _ _, .back] (L 2 (by decide)) (by simp [enLe]) hP nl rfl ?_
        refine go_of [.two _ _ _, .back] (L 2 (by decide)) (by simp [enLe]) hP trivial rfl ?_
        refine go_of [.then_ _ _, .back] (L 2 (by decide)) (by simp [enLe]) hP nl rfl ?_
        refine go_of [.do_ _ _, .then_ _ _, .back] (L 3 (by decide)) (by simp [enLe]) hP nl rfl ?_
        refine go_of [.do_ _ _, .then_ _ _, .back] (L 3 (by decide)) (by simp [enLe]) hP trivial rfl ?_
        refine go_of [.with_ _ _ _, .then_ _ _, .back] (L 3 (by decide)) (by simp [enLe]) hP nl rfl ?_
        refine go_of [.two _ _ _, .with_ _ _ _, .then_ _ _, .back] (L 4 (by decide)) (by simp [enLe]) hP nl rfl ?_
        refine go_of [.two _ _ _, .with_ _ _ _, .then_ _ _, .back] (L 4 (by decide)) (by simp [enLe]) hP trivial rfl ?_
        refine go_of [.then_ _ _, .with_ _ _ _, .then_ _ _, .back] (L 4 (by decide)) (by simp [enLe]) hP nl rfl ?_
        refine go_of [.then_ _ _, .with_ _ _ _, .then_ _ _, .back] (s' := ⟨.val (.int n), [.with_ _ _ _, .then_ _ _, .back] ++ P, c + 1, d + 1⟩) (L 4 (by decide)) (by simp [enLe]) hP trivial ?_ h
        have e1 : told "-" ((n + 1 : Nat) : Int) 1 = some (.int n) := by
          unfold told great
          rw [if_neg (by decide), if_neg (by decide), if_pos rfl, if_pos (by omega), show ((n + 1 : Nat) : Int) - 1 = n by omega]
        show (told "-" ((n + 1 : Nat) : Int) 1).map _ = _
        rw [e1]
        rfl
      have okB : Okk ⟨.val (.int n), [.with_ "k" (.call "f" (.name "k")) [("n", ((n + 1 : Nat) : Int))], .then_ "+" 1, .back] ++ P, c + 1, d + 1⟩ := okk_of [.with_ "k" (.call "f" (.name "k")) [("n", ((n + 1 : Nat) : Int))], .then_ "+" 1, .back] (L 3 (by decide)) (by simp [enLe]) hP trivial
      have stB : step (prog 1 twice) most ⟨.val (.int n), [.with_ "k" (.call "f" (.name "k")) [("n", ((n + 1 : Nat) : Int))], .then_ "+" 1, .back] ++ P, c + 1, d + 1⟩ = some (into most (.call "f" (.name "k")) [("n", ((n + 1 : Nat) : Int)), ("k", (n : Int))] ([.then_ "+" 1, .back] ++ P) (c + 1) (d + 1)) := rfl
      rw [show 2 * (n + 1) = 2 * n + 1 + 1 by omega, fails_succ]
      by_cases h3 : most ≤ c + 1
      · rw [if_pos h3]
        exact to _ (.fin okB (by rw [stB]; unfold into; rw [if_pos h3]))
      rw [if_neg h3]
      by_cases h4 : 60 ≤ d + 1
      · rw [if_pos h4]
        exact to _ (.fin okB (by rw [stB]; unfold into; rw [if_neg h3, if_pos h4]))
      rw [if_neg h4]
      have in2 : ∀ r, Go (prog 1 twice) most ⟨.val (.int n), .call "f" [("n", ((n + 1 : Nat) : Int)), ("k", (n : Int))] :: .back :: .then_ "+" 1 :: .back :: P, c + 1 + 1, d + 1 + 1⟩ r → Go (prog 1 twice) most ⟨.val (.int (n + 1 : Nat)), .call "f" e :: P, c, d⟩ r := fun r h => by
        refine to _ (.one okB (by rw [stB]; unfold into; rw [if_neg h3, if_neg h4]) ?_)
        refine go_of [.back, .then_ _ _, .back] (L 3 (by decide)) (by simp [enLe]) hP (by show List.length _ ≤ 1000; simp) rfl ?_
        exact go_of [.call _ _, .back, .then_ _ _, .back] (L 4 (by decide)) (by simp [enLe]) hP (by show List.length _ ≤ 1000; simp) rfl h
      have ih := call_f1 (twice := twice) (most := most) n (c + 1 + 1) (d + 1 + 1) [("n", ((n + 1 : Nat) : Int)), ("k", (n : Int))] (.back :: .then_ "+" 1 :: .back :: P) (by simp only [List.length_cons]; omega) (by omega) (fun x hx => by
        rcases List.mem_cons.mp hx with rfl | hx
        · trivial
        rcases List.mem_cons.mp hx with rfl | hx
        · trivial
        rcases List.mem_cons.mp hx with rfl | hx
        · trivial
        · exact hP x hx)
      rw [Nat.add_comm 1] at ih
      cases hf : fails most (2 * n + 1) (c + 1 + 1) (d + 1 + 1) with
      | some r =>
        rw [hf] at ih
        exact in2 r ih
      | none =>
        rw [hf] at ih
        refine in2 _ (ih.trans ?_)
        refine go_of [.back, .then_ _ _, .back] (L 3 (by decide)) (by simp [enLe]) hP trivial rfl ?_
        refine go_of [.then_ _ _, .back] (s' := ⟨.val (.int (n + 1 : Nat)), [.back] ++ P, c + 1 + 1 + 1 + 2 * n, d + 1 + 1 - 1⟩) (L 2 (by decide)) (by simp [enLe]) hP trivial ?_ ?_
        · have e1 : told "+" 1 (n : Int) = some (.int (n + 1 : Nat)) := by
            unfold told great
            rw [if_neg (by decide), if_pos rfl, if_pos (by omega), show (1 : Int) + n = (n + 1 : Nat) by omega]
          show (told "+" 1 (n : Int)).map _ = _
          rw [e1]
          rfl
        refine go_of [.back] (L 1 (by decide)) (by simp [enLe]) hP trivial rfl ?_
        rw [show d + 1 + 1 - 1 - 1 = d by omega, show c + 1 + 1 + 1 + 2 * (n : Int) = c + 1 + 2 * ((n + 1 : Nat) : Int) by omega]
        exact .here _
theorem call_f2 {twice : Nat} {most : Int} : ∀ (n : Nat) (c d : Int) (e : En) (P : List Fr), P.length + 4 * n + 20 ≤ 10000 → n ≤ 1000 → (∀ x ∈ P, enLe x) →
    match fails most (1 + 2 * n) c d with
    | some r => Go (prog 2 twice) most ⟨.val (.int n), .call "f" e :: P, c, d⟩ r
    | none => Go (prog 2 twice) most ⟨.val (.int n), .call "f" e :: P, c, d⟩ (.st ⟨.val (.int n), P, c + 1 + 2 * n, d⟩)
  | n, c, d, e, P, hl, hn, hP => by
    rw [Nat.add_comm]
    simp only [fails]
    have st0 : step (prog 2 twice) most ⟨.val (.int n), .call "f" e :: P, c, d⟩ = some (into most (bodyF 2) [("n", (n : Int))] P c d) := rfl
    have ok0 : Okk ⟨.val (.int n), .call "f" e :: P, c, d⟩ := okk_of [.call "f" e] (by show 1 + P.length ≤ 10000; omega) (by simp [enLe]) hP trivial
    by_cases h1 : most ≤ c
    · rw [if_pos h1]
      exact .fin ok0 (by rw [st0]; unfold into; rw [if_pos h1])
    rw [if_neg h1]
    by_cases h2 : 60 ≤ d
    · rw [if_pos h2]
      exact .fin ok0 (by rw [st0]; unfold into; rw [if_neg h1, if_pos h2])
    rw [if_neg h2]
    have st1 : step (prog 2 twice) most ⟨.val (.int n), .call "f" e :: P, c, d⟩ = some (.st ⟨.term (bodyF 2) [("n", (n : Int))], .back :: P, c + 1, d + 1⟩) := by
      rw [st0]; unfold into; rw [if_neg h1, if_neg h2]
    have nl : foLe (.term (bodyF 2) [("n", (n : Int))]) := by show 1 ≤ 1000; decide
    have L : ∀ k : Nat, k ≤ 10 → k + P.length ≤ 10000 := fun k hk => by omega
    have test : ∀ r, Go (prog 2 twice) most ⟨.val (.bl (decide ((n : Int) < 1))), [.ite (.num 0) (.two "+" (.num 1) (again 2)) [("n", (n : Int))], .back] ++ P, c + 1, d + 1⟩ r → Go (prog 2 twice) most ⟨.val (.int n), .call "f" e :: P, c, d⟩ r := fun r h => by
      refine .one ok0 st1 ?_
      refine go_of [.back] (L 1 (by decide)) (by simp [enLe]) hP nl rfl ?_
      refine go_of [.ite _ _ _, .back] (L 2 (by decide)) (by simp [enLe]) hP nl rfl ?_
      refine go_of [.two _ _ _, .ite _ _ _, .back] (L 3 (by decide)) (by simp [enLe]) hP nl rfl ?_
      refine go_of [.two _ _ _, .ite _ _ _, .back] (L 3 (by decide)) (by simp [enLe]) hP trivial rfl ?_
      refine go_of [.then_ _ _, .ite _ _ _, .back] (L 3 (by decide)) (by simp [enLe]) hP nl rfl ?_
      exact go_of [.then_ _ _, .ite _ _ _, .back] (L 3 (by decide)) (by simp [enLe]) hP trivial rfl h
    cases n with
    | zero =>
      simp only [fails]
      refine test _ ?_
      refine go_of [.ite _ _ _, .back] (L 2 (by decide)) (by simp [enLe]) hP trivial rfl ?_
      refine go_of [.back] (L 1 (by decide)) (by simp [enLe]) hP nl rfl ?_
      refine go_of [.back] (L 1 (by decide)) (by simp [enLe]) hP trivial rfl ?_
      rw [show d + 1 - 1 = d by omega, show c + 1 + 2 * ((0 : Nat) : Int) = c + 1 by omega]
      exact .here _
    | succ n =>
      have hlt : decide (((n + 1 : Nat) : Int) < 1) = false := decide_eq_false (by omega)
      rw [hlt] at test
      have to : ∀ r, Go (prog 2 twice) most ⟨.val (.int n), [.call "g" [("n", ((n + 1 : Nat) : Int))], .then_ "+" 1, .back] ++ P, c + 1, d + 1⟩ r → Go (prog 2 twice) most ⟨.val (.int (n + 1 : Nat)), .call "f" e :: P, c, d⟩ r := fun r h => by
        refine test _ ?_
        refine go_of [.ite _ _ _, .back] (L 2 (by decide)) (by simp [enLe]) hP trivial rfl ?_
        refine go_of [.back] (L 1 (by decide)) (by simp [enLe]) hP nl rfl ?_
        refine go_of [.two _ _ _, .back] (L 2 (by decide)) (by simp [enLe]) hP nl rfl ?_
        refine go_of [.two _ _ _, .back] (L 2 (by decide)) (by simp [enLe]) hP trivial rfl ?_
        refine go_of [.then_ _ _, .back] (L 2 (by decide)) (by simp [enLe]) hP nl rfl ?_
        refine go_of [.call _ _, .then_ _ _, .back] (L 3 (by decide)) (by simp [enLe]) hP nl rfl ?_
        refine go_of [.two _ _ _, .call _ _, .then_ _ _, .back] (L 4 (by decide)) (by simp [enLe]) hP nl rfl ?_
        refine go_of [.two _ _ _, .call _ _, .then_ _ _, .back] (L 4 (by decide)) (by simp [enLe]) hP trivial rfl ?_
        refine go_of [.then_ _ _, .call _ _, .then_ _ _, .back] (L 4 (by decide)) (by simp [enLe]) hP nl rfl ?_
        refine go_of [.then_ _ _, .call _ _, .then_ _ _, .back] (s' := ⟨.val (.int n), [.call _ _, .then_ _ _, .back] ++ P, c + 1, d + 1⟩) (L 4 (by decide)) (by simp [enLe]) hP trivial ?_ h
        have e1 : told "-" ((n + 1 : Nat) : Int) 1 = some (.int n) := by
          unfold told great
          rw [if_neg (by decide), if_neg (by decide), if_pos rfl, if_pos (by omega), show ((n + 1 : Nat) : Int) - 1 = n by omega]
        show (told "-" ((n + 1 : Nat) : Int) 1).map _ = _
        rw [e1]
        rfl
      have okB : Okk ⟨.val (.int n), [.call "g" [("n", ((n + 1 : Nat) : Int))], .then_ "+" 1, .back] ++ P, c + 1, d + 1⟩ := okk_of [.call "g" [("n", ((n + 1 : Nat) : Int))], .then_ "+" 1, .back] (L 3 (by decide)) (by simp [enLe]) hP trivial
      have stB : step (prog 2 twice) most ⟨.val (.int n), [.call "g" [("n", ((n + 1 : Nat) : Int))], .then_ "+" 1, .back] ++ P, c + 1, d + 1⟩ = some (into most (.call "f" (.name "n")) [("n", (n : Int))] ([.then_ "+" 1, .back] ++ P) (c + 1) (d + 1)) := rfl
      rw [show 2 * (n + 1) = 2 * n + 1 + 1 by omega, fails_succ]
      by_cases h3 : most ≤ c + 1
      · rw [if_pos h3]
        exact to _ (.fin okB (by rw [stB]; unfold into; rw [if_pos h3]))
      rw [if_neg h3]
      by_cases h4 : 60 ≤ d + 1
      · rw [if_pos h4]
        exact to _ (.fin okB (by rw [stB]; unfold into; rw [if_neg h3, if_pos h4]))
      rw [if_neg h4]
      have in2 : ∀ r, Go (prog 2 twice) most ⟨.val (.int n), .call "f" [("n", (n : Int))] :: .back :: .then_ "+" 1 :: .back :: P, c + 1 + 1, d + 1 + 1⟩ r → Go (prog 2 twice) most ⟨.val (.int (n + 1 : Nat)), .call "f" e :: P, c, d⟩ r := fun r h => by
        refine to _ (.one okB (by rw [stB]; unfold into; rw [if_neg h3, if_neg h4]) ?_)
        refine go_of [.back, .then_ _ _, .back] (L 3 (by decide)) (by simp [enLe]) hP (by show List.length _ ≤ 1000; simp) rfl ?_
        exact go_of [.call _ _, .back, .then_ _ _, .back] (L 4 (by decide)) (by simp [enLe]) hP (by show List.length _ ≤ 1000; simp) rfl h
      have ih := call_f2 (twice := twice) (most := most) n (c + 1 + 1) (d + 1 + 1) [("n", (n : Int))] (.back :: .then_ "+" 1 :: .back :: P) (by simp only [List.length_cons]; omega) (by omega) (fun x hx => by
        rcases List.mem_cons.mp hx with rfl | hx
        · trivial
        rcases List.mem_cons.mp hx with rfl | hx
        · trivial
        rcases List.mem_cons.mp hx with rfl | hx
        · trivial
        · exact hP x hx)
      rw [Nat.add_comm 1] at ih
      cases hf : fails most (2 * n + 1) (c + 1 + 1) (d + 1 + 1) with
      | some r =>
        rw [hf] at ih
        exact in2 r ih
      | none =>
        rw [hf] at ih
        refine in2 _ (ih.trans ?_)
        refine go_of [.back, .then_ _ _, .back] (L 3 (by decide)) (by simp [enLe]) hP trivial rfl ?_
        refine go_of [.then_ _ _, .back] (s' := ⟨.val (.int (n + 1 : Nat)), [.back] ++ P, c + 1 + 1 + 1 + 2 * n, d + 1 + 1 - 1⟩) (L 2 (by decide)) (by simp [enLe]) hP trivial ?_ ?_
        · have e1 : told "+" 1 (n : Int) = some (.int (n + 1 : Nat)) := by
            unfold told great
            rw [if_neg (by decide), if_pos rfl, if_pos (by omega), show (1 : Int) + n = (n + 1 : Nat) by omega]
          show (told "+" 1 (n : Int)).map _ = _
          rw [e1]
          rfl
        refine go_of [.back] (L 1 (by decide)) (by simp [enLe]) hP trivial rfl ?_
        rw [show d + 1 + 1 - 1 - 1 = d by omega, show c + 1 + 1 + 1 + 2 * (n : Int) = c + 1 + 2 * ((n + 1 : Nat) : Int) by omega]
        exact .here _
end RK
namespace RK
open PySem L2 BV
def calls (way n : Nat) : Nat := 1 + (if way = 0 then 1 else 2) * n
theorem call_f {way twice : Nat} {most : Int} (hw : way < 3) (n : Nat) (c d : Int) (e : En) (P : List Fr) (hl : P.length + 4 * n + 20 ≤ 10000) (hn : n ≤ 1000) (hP : ∀ x ∈ P, enLe x) :
    match fails most (calls way n) c d with
    | some r => Go (prog way twice) most ⟨.val (.int n), .call "f" e :: P, c, d⟩ r
    | none => Go (prog way twice) most ⟨.val (.int n), .call "f" e :: P, c, d⟩ (.st ⟨.val (.int n), P, c + (calls way n : Nat), d⟩) := by
  have h : way = 0 ∨ way = 1 ∨ way = 2 := by omega
  rcases h with rfl | rfl | rfl
  · have := call_f0 (twice := twice) (most := most) n c d e P hl hn hP
    have e1 : calls 0 n = 1 + n := by unfold calls; simp
    rw [e1, show c + ((1 + n : Nat) : Int) = c + 1 + n by omega]
    exact this
  · have := call_f1 (twice := twice) (most := most) n c d e P hl hn hP
    have e1 : calls 1 n = 1 + 2 * n := by unfold calls; simp
    rw [e1, show c + ((1 + 2 * n : Nat) : Int) = c + 1 + 2 * n by omega]
    exact this
  · have := call_f2 (twice := twice) (most := most) n c d e P hl hn hP
    have e1 : calls 2 n = 1 + 2 * n := by unfold calls; simp
    rw [e1, show c + ((1 + 2 * n : Nat) : Int) = c + 1 + 2 * n by omega]
    exact this
/-- what comes of main -/
def ends (way twice : Nat) (most : Int) (n : Nat) : Res := match fails most (calls way n) 0 1 with
  | some r => r
  | none => match twice with
    | 0 => .value n
    | 1 => match fails most (calls way n) (calls way n : Nat) 1 with
      | some r => r
      | none => .value (n + n)
    | _ => match fails most (calls way n) (calls way n : Nat) 1 with
      | some r => r
      | none => .value n
theorem fin_value {D : List Dn} {most n c d : Int} : Go D most ⟨.val (.int n), [], c, d⟩ (.value n) := .fin ⟨Nat.zero_le _, (fun x h => by cases h), (fun t e h => by cases h)⟩ rfl
theorem main_ends {way twice : Nat} {most : Int} (hw : way < 3) (ht : twice < 3) (n : Nat) (hn : n ≤ 1000) : Go (prog way twice) most ⟨.term (first twice) [("n", (n : Int))], [], 0, 1⟩ (ends way twice most n) := by
  have nl : ∀ t, foLe (.term t [("n", (n : Int))]) := fun t => by show 1 ≤ 1000; decide
  have h : twice = 0 ∨ twice = 1 ∨ twice = 2 := by omega
  unfold ends
  rcases h with rfl | rfl | rfl
  · have k := call_f (twice := 0) (most := most) hw n 0 1 [("n", (n : Int))] [] (by simp; omega) hn (by simp)
    refine go_of (P := []) [] (by simp) (by simp) (by simp) (nl _) rfl ?_
    refine go_of (P := []) [.call _ _] (by simp) (by simp [enLe]) (by simp) (nl _) rfl ?_
    cases hf : fails most (calls way n) 0 1 with
    | some r => rw [hf] at k; exact k
    | none => rw [hf] at k; exact k.trans fin_value
  · have k := call_f (twice := 1) (most := most) hw n 0 1 [("n", (n : Int))] [.two "+" (.call "f" (.name "n")) [("n", (n : Int))]] (by simp; omega) hn (by simp [enLe])
    have k2 := call_f (twice := 1) (most := most) hw n (calls way n : Nat) 1 [("n", (n : Int))] [.then_ "+" n] (by simp; omega) hn (by simp [enLe])
    refine go_of (P := []) [] (by simp) (by simp) (by simp) (nl _) rfl ?_
    refine go_of (P := []) [.two _ _ _] (by simp) (by simp [enLe]) (by simp) (nl _) rfl ?_
    refine go_of (P := []) [.call _ _, .two _ _ _] (by simp) (by simp [enLe]) (by simp) (nl _) rfl ?_
    cases hf : fails most (calls way n) 0 1 with
    | some r => rw [hf] at k; exact k
    | none =>
      rw [hf] at k
      refine k.trans ?_
      rw [Int.zero_add]
      refine go_of (P := []) [.two _ _ _] (by simp) (by simp [enLe]) (by simp) trivial rfl ?_
      refine go_of (P := []) [.then_ _ _] (by simp) (by simp [enLe]) (by simp) (nl _) rfl ?_
      refine go_of (P := []) [.call _ _, .then_ _ _] (by simp) (by simp [enLe]) (by simp) (nl _) rfl ?_
      cases hf2 : fails most (calls way n) (calls way n : Nat) 1 with
      | some r => rw [hf2] at k2; exact k2
      | none =>
        rw [hf2] at k2
        refine k2.trans ?_
        refine go_of (P := []) (s' := ⟨.val (.int (n + n)), [], (calls way n : Nat) + (calls way n : Nat), 1⟩) [.then_ _ _] (by simp) (by simp [enLe]) (by simp) trivial ?_ fin_value
        have e1 : told "+" (n : Int) (n : Int) = some (.int (n + n)) := by
          unfold told great
          rw [if_neg (by decide), if_pos rfl, if_pos (by omega)]
        show (told "+" (n : Int) (n : Int)).map _ = _
        rw [e1]
        rfl
  · have k := call_f (twice := 2) (most := most) hw n 0 1 [("n", (n : Int))] [.let_ "m" (.call "f" (.name "m")) [("n", (n : Int))]] (by simp; omega) hn (by simp [enLe])
    have k2 := call_f (twice := 2) (most := most) hw n (calls way n : Nat) 1 [("n", (n : Int)), ("m", (n : Int))] [] (by simp; omega) hn (by simp)
    refine go_of (P := []) [] (by simp) (by simp) (by simp) (nl _) rfl ?_
    refine go_of (P := []) [.let_ _ _ _] (by simp) (by simp [enLe]) (by simp) (nl _) rfl ?_
    refine go_of (P := []) [.call _ _, .let_ _ _ _] (by simp) (by simp [enLe]) (by simp) (nl _) rfl ?_
    cases hf : fails most (calls way n) 0 1 with
    | some r => rw [hf] at k; exact k
    | none =>
      rw [hf] at k
      refine k.trans ?_
      rw [Int.zero_add]
      refine go_of (P := []) [.let_ _ _ _] (by simp) (by simp [enLe]) (by simp) trivial rfl ?_
      refine go_of (P := []) [] (by simp) (by simp) (by simp) (by show List.length _ ≤ 1000; simp) rfl ?_
      refine go_of (P := []) [.call _ _] (by simp) (by simp [enLe]) (by simp) (by show List.length _ ≤ 1000; simp) rfl ?_
      cases hf2 : fails most (calls way n) (calls way n : Nat) 1 with
      | some r => rw [hf2] at k2; exact k2
      | none => rw [hf2] at k2; exact k2.trans fin_value
end RK
set_option maxHeartbeats 4000000
namespace RK
open PySem L2 BV
seal PE PT PW PA PS PSs PTs PI PG PGs PO
abbrev s_begun : Stmt := BV.top 14
abbrev s_reckoned : Stmt := BV.top 15
theorem sc_begun : FnScope ["program", "numbers", "main"] ["program", "numbers"] (defScope s_begun) := ⟨rfl, rfl, rfl, by decide +kernel, rfl, by decide +kernel, by decide +kernel⟩
theorem sc_reckoned : FnScope ["program", "numbers", "most", "state"] ["program", "numbers", "most"] (defScope s_reckoned) := ⟨rfl, rfl, rfl, by decide +kernel, rfl, by decide +kernel, by decide +kernel⟩
inductive GoN (D : List Dn) (most : Int) : Nat → Sta → Res → Prop
  | here (s : Sta) : GoN D most 0 s (.st s)
  | one {m : Nat} {s s' : Sta} {r : Res} : Okk s → step D most s = some (.st s') → GoN D most m s' r → GoN D most (m + 1) s r
  | fin {s : Sta} {r : Res} : Okk s → step D most s = some r → GoN D most 1 s r
theorem Go.num {D : List Dn} {most : Int} {s : Sta} {r : Res} (h : Go D most s r) : ∃ m, GoN D most m s r := by
  induction h with
  | here => exact ⟨0, .here _⟩
  | one o k _ ih => obtain ⟨m, ih⟩ := ih; exact ⟨m + 1, .one o k ih⟩
  | fin o k => exact ⟨1, .fin o k⟩
def isEnd : Res → Bool
  | .st _ => false
  | _ => true
section
variable {P : Program} {w : World} {K : PySem.W.Frag} {mg : Str → Option Value} {base : Heap} {f : Addr} {fd : FuncData} {f_function_called f_bound_to f_begun f_onward : Addr} {d_function_called d_bound_to d_begun d_onward : FuncData}
def spBegun : Sp := fun vs H Q _ => ∃ (D : List Dn) (d : Dn) (n : Int) (gv : V) (a : Addr), vs = [gv, .ref a] ∧ PgAt H D gv ∧ D.length ≤ 1000 ∧ (D.find? fun d => d.name == ("main" : Str)) = some d ∧ H a = some (.lst [.int n]) ∧ ∀ u H', Same H H' → StAt H' ⟨.term d.body [(d.par, n)], [], 0, 1⟩ u → Q u H'
theorem ok_begun (F : Fun K "begun" "begun" s_begun f fd)
    (G_function_called : FnOk P w K mg base CX0 1 f_function_called d_function_called ["program", "name"] spFc) (b_function_called : Binds K d_function_called ["program", "name"] []) (k_function_called : PySem.W.keepIn K (.ref f_function_called) = true) (m_function_called : mg "function_called" = some (.ref f_function_called))
    (G_bound_to : FnOk P w K mg base CX0 1 f_bound_to d_bound_to ["names", "values"] spBound) (b_bound_to : Binds K d_bound_to ["names", "values"] []) (k_bound_to : PySem.W.keepIn K (.ref f_bound_to) = true) (m_bound_to : mg "bound_to" = some (.ref f_bound_to)) :
    FnOk P w K mg base CX0 2 f fd ["program", "numbers"] spBegun := by
  refine F.ok sc_begun (fun vs H Q E h => ?_) (fun cdv A outer s H vs Q E hr h => ?_)
  · obtain ⟨D, d, n, gv, a, rfl, _⟩ := h
    rfl
  obtain ⟨D, d, n, gv, a, rfl, hg, hgl, hd, ha, q⟩ := h
  have nd := sc_begun.nd
  have z4 : (4 : Nat) ≤ sizeLine := by decide
  refine ⟨_, (pss_cons (ps_set (i := 2) nd rfl (Or.inl rfl) (pe_call G_function_called (hr.mono (by first | decide | omega)) rfl m_function_called k_function_called b_function_called .nil pass0 (pa_cons (pv 0) (pa_cons pe_str pa_nil))))
      (pss_one (ps_ret (pe_tup (pa_cons (pe_tup (pa_cons pe_str (pa_cons (pe_ix (kIx (K := K) (w := w)) (pv 2) pe_int (fun _ _ => rfl)) (pa_cons (pe_call G_bound_to (hr.mono (by first | decide | omega)) rfl m_bound_to k_bound_to b_bound_to .nil pass0 (pa_cons (pe_ix (kIx (K := K) (w := w)) (pv 2) pe_int (fun _ _ => rfl)) (pa_cons (pv 1) pa_nil))) pa_nil)))) (pa_cons (pe_tup pa_nil) (pa_cons pe_int (pa_cons pe_int pa_nil)))))))), ?_⟩
  refine ⟨_, rfl, D, d, "main", gv, rfl, hg, hgl, hd, fun u H1 s1 ⟨p, pq, tv, e, hp, hpq, ht⟩ => ?_⟩
  subst e
  refine ⟨_, rfl, .inr (.inl ⟨p, _, 3, _, rfl, rfl, SqT.of hp, rfl, _, rfl, .inr (.inl ⟨p, _, 2, _, rfl, rfl, SqT.of hp, rfl, _, rfl, pq, a, d.par, n, rfl, hpq, .inr (s1 _ _ ha), fun ev H2 s2 he => ⟨three3, fun a1 ha1 => ⟨(by show 0 ≤ sizeLine; decide), fun a2 ha2 => ⟨z4, fun a3 ha3 => ?_⟩⟩⟩⟩)⟩)⟩
  have s3 := same_new ha1 (.tup [.str "term", tv, ev])
  have s4 := same_new ha2 (.tup [])
  have s5 := same_new ha3 (.tup [.ref a1, .ref a2, .int 0, .int 1])
  have s35 := s3.trans (s4.trans s5)
  exact q _ _ (s1.trans (s2.trans s35)) ⟨a3, .ref a1, .ref a2, rfl, upd_same, ⟨a1, tv, ev, rfl, (s4.trans s5) _ _ upd_same, TmAt.mono (tups_of (s2.trans s35)) _ _ ht, he.mono (tups_of s35)⟩, ⟨a2, [], rfl, s5 _ _ upd_same, .nil⟩⟩
def spRk : Sp := fun vs H Q _ => ∃ (D : List Dn) (d : Dn) (n most : Int) (r : Res) (gv : V) (a : Addr), vs = [gv, .ref a, .int most] ∧ PgAt H D gv ∧ D.length ≤ 1000 ∧ (D.find? fun d => d.name == ("main" : Str)) = some d ∧ H a = some (.lst [.int n]) ∧ isEnd r = true ∧ Go D most ⟨.term d.body [(d.par, n)], [], 0, 1⟩ r ∧ ∀ u H', Same H H' → ReAt H' r u → Q u H'
theorem ok_reckoned {tP : Tok} (m_PARTS_OF_STATE : mg "PARTS_OF_STATE" = some (.int 4 tP)) (F : Fun K "reckoned" "reckoned" s_reckoned f fd) (B : BV.NoG mg)
    (G_begun : FnOk P w K mg base CX0 2 f_begun d_begun ["program", "numbers"] spBegun) (b_begun : Binds K d_begun ["program", "numbers"] []) (k_begun : PySem.W.keepIn K (.ref f_begun) = true) (m_begun : mg "begun" = some (.ref f_begun))
    (G_onward : FnOk P w K mg base CX0 6 f_onward d_onward ["program", "state", "most"] spOn) (b_onward : Binds K d_onward ["program", "state", "most"] []) (k_onward : PySem.W.keepIn K (.ref f_onward) = true) (m_onward : mg "onward" = some (.ref f_onward)) :
    FnOk P w K mg base CX0 7 f fd ["program", "numbers", "most"] spRk := by
  refine F.ok sc_reckoned (fun vs H Q E h => ?_) (fun cdv A outer s H vs Q E hr h => ?_)
  · obtain ⟨D, d, n, most, r, gv, a, rfl, _⟩ := h
    rfl
  obtain ⟨D, d, n, most, r, gv, a, rfl, hg, hgl, hd, ha, hre, hgo, q⟩ := h
  have nd := sc_reckoned.nd
  have hu := hr.units0
  obtain ⟨m0, hgo⟩ := hgo.num
  refine ⟨_, (pss_cons (ps_set (i := 3) nd rfl (Or.inl rfl) (pe_call G_begun (hr.mono (by first | decide | omega)) rfl m_begun k_begun b_begun .nil pass0 (pa_cons (pv 0) (pa_cons (pv 1) pa_nil))))
      (pss_cons (ps_cut (ps_while PassesOwn.never (pt_cmpR (kEq (K := K) hu) (pe_callB (k_len (K := K)) rfl B.len_ bt_len (pa_cons (pv 3) pa_nil)) (pe_glob (v := .int 4) rfl m_PARTS_OF_STATE ⟨_, rfl⟩) rfl) (pss_one (ps_set (i := 3) nd rfl (Or.inl rfl) (pe_call G_onward (hr.mono (by first | decide | omega)) rfl m_onward k_onward b_onward .nil pass0 (pa_cons (pv 0) (pa_cons (pv 3) (pa_cons (pv 2) pa_nil))))))))
      (pss_one (ps_ret (pv 3))))), ?_⟩
  refine ⟨_, rfl, _, rfl, D, d, n, gv, a, rfl, hg, hgl, hd, ha, fun u H1 s1 hu1 => ?_⟩
  refine ⟨fun σ H' => ∃ u, σ = [some gv, some (.ref a), some (.int most), some u] ∧ Same H H' ∧ ReAt H' r u, ?_, ?_⟩
  · refine ⟨fun m σ H' => ∃ u, σ = [some gv, some (.ref a), some (.int most), some u] ∧ Same H H' ∧ ((∃ s, GoN D most m s r ∧ StAt H' s u) ∨ (m = 0 ∧ ReAt H' r u)), ⟨m0, u, rfl, s1, .inl ⟨_, hgo, hu1⟩⟩, ?_⟩
    rintro m σ H' ⟨u, rfl, sm, hor⟩
    rcases hor with ⟨s, hs, hsu⟩ | ⟨rfl, hru⟩
    · have hsu0 := hsu
      obtain ⟨p, fv, lv, rfl, hp, _, _⟩ := hsu
      have hg' := hg.mono (tups_of sm)
      refine ⟨_, rfl, _, _, rfl, .inr ⟨_, SqT.of hp, rfl⟩, .inl ⟨rfl, _, rfl, ifT (by simp) ?_⟩⟩
      cases hs with
      | here => cases hre
      | @one m _ s' _ o k hs' =>
        refine ⟨fun σ H' => ∃ u, σ = [some gv, some (.ref a), some (.int most), some u] ∧ Same H H' ∧ ((∃ s, GoN D most m s r ∧ StAt H' s u) ∨ (m = 0 ∧ ReAt H' r u)), fun σ' H' h => ⟨m, Nat.lt_succ_self _, h⟩, ?_⟩
        exact ⟨_, rfl, _, rfl, _, rfl, s, .st s', D, most, gv, .ref p, rfl, hg', hgl, hsu0, o.1, o.2.1, o.2.2, k, fun u2 H2 s2 h2 => ⟨u2, rfl, sm.trans s2, .inl ⟨s', hs', h2⟩⟩⟩
      | fin o k =>
        refine ⟨fun σ H' => ∃ u, σ = [some gv, some (.ref a), some (.int most), some u] ∧ Same H H' ∧ ReAt H' r u, fun σ' H' ⟨u, e, sm, h⟩ => ⟨0, Nat.lt_succ_self _, u, e, sm, .inr ⟨rfl, h⟩⟩, ?_⟩
        exact ⟨_, rfl, _, rfl, _, rfl, s, r, D, most, gv, .ref p, rfl, hg', hgl, hsu0, o.1, o.2.1, o.2.2, k, fun u2 H2 s2 h2 => ⟨u2, rfl, sm.trans s2, h2⟩⟩
    · have hru0 := hru
      cases r with
      | st => cases hre
      | dry | deep | value =>
        obtain ⟨p, rfl, hp⟩ := hru
        exact ⟨_, rfl, _, _, rfl, .inr ⟨_, SqT.of hp, rfl⟩, .inl ⟨rfl, _, rfl, ifF (by simp) ⟨_, rfl, sm, hru0⟩⟩⟩
  rintro σ H' ⟨u, rfl, sm, hru⟩
  exact ⟨_, rfl, q u H' sm hru⟩
end
end RK
set_option maxHeartbeats 4000000
namespace RK
open PySem L2 BV
seal PE PT PW PA PS PSs PTs PI PG PGs PO
abbrev s_law_cell_at : Stmt := BV.top 36
abbrev s_law_program : Stmt := BV.top 37
theorem sc_law_cell_at : FnScope ["_law_script", "_law_k"] ["_law_script", "_law_k"] (defScope s_law_cell_at) := ⟨rfl, rfl, rfl, by decide +kernel, rfl, by decide +kernel, by decide +kernel⟩
theorem sc_law_program : FnScope ["_law_way", "_law_twice", "_law_n", "_law_less", "_law_again", "_law_body", "_law_first", "_law_further"] ["_law_way", "_law_twice"] (defScope s_law_program) := ⟨rfl, rfl, rfl, by decide +kernel, rfl, by decide +kernel, by decide +kernel⟩
section
variable {P : Program} {w : World} {K : PySem.W.Frag} {mg : Str → Option Value} {base : Heap} {f : Addr} {fd : FuncData}
def spCell (K : PySem.W.Frag) : Sp := fun vs H Q _ => ∃ (a : Addr) (ns : List Int) (k : Int), vs = [.ref a, .int k] ∧ SqL K H a (ns.map V.int) ∧ 0 ≤ k ∧ ∀ n : Int, Q (.int n) H
theorem ok_law_cell_at (F : Fun K "_law_cell_at" "_law_cell_at" s_law_cell_at f fd) (B : BV.NoG mg) : FnOk P w K mg base CX0 1 f fd ["_law_script", "_law_k"] (spCell K) := by
  refine F.ok sc_law_cell_at (fun vs H Q E h => ?_) (fun cdv A outer s H vs Q E hr h => ?_)
  · obtain ⟨a, ns, k, rfl, _⟩ := h
    rfl
  obtain ⟨a, ns, k, rfl, hS, hk, q⟩ := h
  have nd := sc_law_cell_at.nd
  refine ⟨_, (pss_cons (ps_if (pt_cmpR op_lt (pv 1) (pe_callB (k_len (K := K)) rfl B.len_ bt_len (pa_cons (pv 0) pa_nil)) rfl) (pss_one (ps_ret (pe_ix (kIx (K := K) (w := w)) (pv 0) (pv 1) (fun _ _ => rfl)))) pss_nil)
      (pss_one (ps_ret pe_int))), ?_⟩
  refine ⟨_, rfl, _, rfl, _, _, rfl, .inl ⟨_, hS, rfl⟩, _, _, rfl, rfl, _, rfl, ite2 (fun c => ?_) (fun c => ?_)⟩
  · have c' : k < ((ns.map V.int).length : Nat) := of_decide_eq_true c
    rw [List.length_map] at c'
    have hk' : k.toNat < ns.length := by omega
    have e : atI (ns.map V.int) ((k.toNat : Nat) : Int) = some (.int ns[k.toNat]) := atI_nat (by rw [List.getElem?_map, List.getElem?_eq_getElem hk']; rfl)
    have ek : ((k.toNat : Nat) : Int) = k := by omega
    rw [ek] at e
    exact ⟨_, rfl, _, rfl, .inl ⟨_, _, _, _, rfl, rfl, hS, e, q _⟩⟩
  · exact q 0
def stP (way twice : Nat) (a2 a3 a4 a5 a6 a7 : Option V) : St := [some (.int (way : Nat)), some (.int (twice : Nat)), a2, a3, a4, a5, a6, a7]
def spPg : Sp := fun vs H Q _ => ∃ (way twice : Nat), vs = [.int (way : Nat), .int (twice : Nat)] ∧ way < 3 ∧ twice < 3 ∧ ∀ v H', Same H H' → PgAt H' (prog way twice) v → Q v H'
theorem ok_law_program (F : Fun K "_law_program" "_law_program" s_law_program f fd) : FnOk P w K mg base CX0 1 f fd ["_law_way", "_law_twice"] spPg := by
  refine F.ok sc_law_program (fun vs H Q E h => ?_) (fun cdv A outer s H vs Q E hr h => ?_)
  · obtain ⟨way, twice, rfl, _⟩ := h
    rfl
  obtain ⟨way, twice, rfl, hw, ht, q⟩ := h
  have nd := sc_law_program.nd
  have hu := hr.units0
  have z4 : (4 : Nat) ≤ sizeLine := by decide
  refine ⟨_, (pss_cons (ps_set (i := 2) nd rfl (Or.inl rfl) (pe_tup (pa_cons pe_str (pa_cons pe_str pa_nil))))
      (pss_cons (ps_set (i := 3) nd rfl (Or.inl rfl) (pe_tup (pa_cons pe_str (pa_cons pe_str (pa_cons (pv 2) (pa_cons (pe_tup (pa_cons pe_str (pa_cons pe_int pa_nil))) pa_nil))))))
      (pss_cons (ps_set (i := 4) nd rfl (Or.inl rfl) (pe_tup (pa_cons pe_str (pa_cons pe_str (pa_cons (pe_tup (pa_cons (pv 3) pa_nil)) pa_nil)))))
      (pss_cons (ps_cut (ps_if (pt_cmpR (kEq (K := K) hu) (pv 0) pe_int rfl) (pss_one (ps_set (i := 4) nd rfl (Or.inl rfl) (pe_tup (pa_cons pe_str (pa_cons (pe_tup (pa_cons pe_str (pa_cons pe_str (pa_cons (pe_tup (pa_cons pe_str (pa_cons pe_str (pa_cons (pe_tup (pa_cons (pe_tup (pa_cons pe_str (pa_cons pe_str pa_nil))) pa_nil)) pa_nil)))) pa_nil)))) (pa_cons (pv 3) pa_nil)))))) pss_nil))
      (pss_cons (ps_cut (ps_if (pt_cmpR (kEq (K := K) hu) (pv 0) pe_int rfl) (pss_one (ps_set (i := 4) nd rfl (Or.inl rfl) (pe_tup (pa_cons pe_str (pa_cons pe_str (pa_cons (pe_tup (pa_cons (pv 3) pa_nil)) pa_nil)))))) pss_nil))
      (pss_cons (ps_set (i := 5) nd rfl (Or.inl rfl) (pe_tup (pa_cons pe_str (pa_cons (pe_tup (pa_cons pe_str (pa_cons pe_str (pa_cons (pv 2) (pa_cons (pe_tup (pa_cons pe_str (pa_cons pe_int pa_nil))) pa_nil))))) (pa_cons (pe_tup (pa_cons pe_str (pa_cons pe_int pa_nil))) (pa_cons (pe_tup (pa_cons pe_str (pa_cons pe_str (pa_cons (pe_tup (pa_cons pe_str (pa_cons pe_int pa_nil))) (pa_cons (pv 4) pa_nil))))) pa_nil))))))
      (pss_cons (ps_set (i := 6) nd rfl (Or.inl rfl) (pe_tup (pa_cons pe_str (pa_cons pe_str (pa_cons (pe_tup (pa_cons (pv 2) pa_nil)) pa_nil)))))
      (pss_cons (ps_cut (ps_if (pt_cmpR (kEq (K := K) hu) (pv 1) pe_int rfl) (pss_one (ps_set (i := 6) nd rfl (Or.inl rfl) (pe_tup (pa_cons pe_str (pa_cons pe_str (pa_cons (pv 6) (pa_cons (pe_tup (pa_cons pe_str (pa_cons pe_str (pa_cons (pe_tup (pa_cons (pv 2) pa_nil)) pa_nil)))) pa_nil))))))) pss_nil))
      (pss_cons (ps_cut (ps_if (pt_cmpR (kEq (K := K) hu) (pv 1) pe_int rfl) (pss_one (ps_set (i := 6) nd rfl (Or.inl rfl) (pe_tup (pa_cons pe_str (pa_cons pe_str (pa_cons (pv 6) (pa_cons (pe_tup (pa_cons pe_str (pa_cons pe_str (pa_cons (pe_tup (pa_cons (pe_tup (pa_cons pe_str (pa_cons pe_str pa_nil))) pa_nil)) pa_nil)))) pa_nil))))))) pss_nil))
      (pss_cons (ps_set (i := 7) nd rfl (Or.inl rfl) (pe_tup (pa_cons pe_str (pa_cons pe_str (pa_cons (pe_tup (pa_cons pe_str pa_nil)) (pa_cons (pe_tup (pa_cons pe_str (pa_cons pe_str (pa_cons (pe_tup (pa_cons (pv 2) pa_nil)) pa_nil)))) pa_nil))))))
      (pss_one (ps_ret (pe_tup (pa_cons (pe_tup (pa_cons pe_str (pa_cons pe_str (pa_cons (pe_tup (pa_cons pe_str pa_nil)) (pa_cons (pv 5) pa_nil))))) (pa_cons (pv 7) (pa_cons (pe_tup (pa_cons pe_str (pa_cons pe_str (pa_cons (pe_tup (pa_cons pe_str pa_nil)) (pa_cons (pv 6) pa_nil))))) pa_nil)))))))))))))))), ?_⟩
  -- n, less, again
  refine ⟨two2, fun a1 b1 => ⟨_, rfl, two2, fun a2 b2 => ⟨z4, fun a3 b3 => ⟨_, rfl, one1, fun a4 b4 => ⟨three3, fun a5 b5 => ?_⟩⟩⟩⟩⟩
  have s1 := same_new b1 (.tup [.str "name", .str "n"])
  have s2 := same_new b2 (.tup [.str "number", .int 1])
  have s3 := same_new b3 (.tup [.str "two", .str "-", .ref a1, .ref a2])
  have s4 := same_new b4 (.tup [.ref a3])
  have s5 := same_new b5 (.tup [.str "call", .str "f", .ref a4])
  have sA : Same H (upd (upd (upd (upd (upd H a1 (.tup [.str "name", .str "n"])) a2 (.tup [.str "number", .int 1])) a3 (.tup [.str "two", .str "-", .ref a1, .ref a2])) a4 (.tup [.ref a3])) a5 (.tup [.str "call", .str "f", .ref a4])) := s1.trans (s2.trans (s3.trans (s4.trans s5)))
  have hn : TmAt (upd (upd (upd (upd (upd H a1 (.tup [.str "name", .str "n"])) a2 (.tup [.str "number", .int 1])) a3 (.tup [.str "two", .str "-", .ref a1, .ref a2])) a4 (.tup [.ref a3])) a5 (.tup [.str "call", .str "f", .ref a4])) (.name "n") (.ref a1) := ⟨a1, rfl, (s2.trans (s3.trans (s4.trans s5))) _ _ upd_same⟩
  have hle : TmAt (upd (upd (upd (upd (upd H a1 (.tup [.str "name", .str "n"])) a2 (.tup [.str "number", .int 1])) a3 (.tup [.str "two", .str "-", .ref a1, .ref a2])) a4 (.tup [.ref a3])) a5 (.tup [.str "call", .str "f", .ref a4])) less (.ref a3) := ⟨a3, .ref a1, .ref a2, rfl, (s4.trans s5) _ _ upd_same, hn, a2, rfl, (s3.trans (s4.trans s5)) _ _ upd_same⟩
  have hag : TmAt (upd (upd (upd (upd (upd H a1 (.tup [.str "name", .str "n"])) a2 (.tup [.str "number", .int 1])) a3 (.tup [.str "two", .str "-", .ref a1, .ref a2])) a4 (.tup [.ref a3])) a5 (.tup [.str "call", .str "f", .ref a4])) (again 0) (.ref a5) := ⟨a5, a4, .ref a3, rfl, upd_same, s5 _ _ upd_same, hle⟩
  show tSeq _ _ _ (stP way twice (some (.ref a1)) (some (.ref a3)) (some (.ref a5)) none none none) (upd (upd (upd (upd (upd H a1 (.tup [.str "name", .str "n"])) a2 (.tup [.str "number", .int 1])) a3 (.tup [.str "two", .str "-", .ref a1, .ref a2])) a4 (.tup [.ref a3])) a5 (.tup [.str "call", .str "f", .ref a4]))
  generalize upd (upd (upd (upd (upd H a1 (.tup [.str "name", .str "n"])) a2 (.tup [.str "number", .int 1])) a3 (.tup [.str "two", .str "-", .ref a1, .ref a2])) a4 (.tup [.ref a3])) a5 (.tup [.str "call", .str "f", .ref a4]) = H1 at sA hn hle hag ⊢
  -- way 1
  refine ⟨fun σ H' => ∃ av, σ = stP way twice (some (.ref a1)) (some (.ref a3)) (some av) none none none ∧ Same H1 H' ∧ TmAt H' (again (if way = 1 then 1 else 0)) av, ?_, ?_⟩
  · refine ⟨_, rfl, .inl ⟨rfl, _, rfl, ite2 (fun c => ?_) (fun c => ?_)⟩⟩
    · have e : way = 1 := by have := of_decide_eq_true c; injection this with this; omega
      refine ⟨two2, fun c1 d1 => ⟨one1, fun c2 d2 => ⟨three3, fun c3 d3 => ⟨three3, fun c4 d4 => ⟨_, rfl, three3, fun c5 d5 => ?_⟩⟩⟩⟩⟩
      have t1 := same_new d1 (.tup [.str "name", .str "k"])
      have t2 := same_new d2 (.tup [.ref c1])
      have t3 := same_new d3 (.tup [.str "call", .str "f", .ref c2])
      have t4 := same_new d4 (.tup [.str "fn", .str "k", .ref c3])
      have t5 := same_new d5 (.tup [.str "do", .ref c4, .ref a3])
      have tA := t1.trans (t2.trans (t3.trans (t4.trans t5)))
      refine ⟨.ref c5, rfl, tA, ?_⟩
      rw [if_pos e]
      exact ⟨c5, .ref c4, .ref a3, rfl, upd_same, ⟨c4, .ref c3, rfl, t5 _ _ upd_same, ⟨c3, c2, .ref c1, rfl, (t4.trans t5) _ _ upd_same, (t3.trans (t4.trans t5)) _ _ upd_same, c1, rfl, (t2.trans (t3.trans (t4.trans t5))) _ _ upd_same⟩⟩, TmAt.mono (tups_of tA) _ _ hle⟩
    · have e : ¬ way = 1 := fun z => c (by subst z; decide)
      exact ⟨.ref a5, rfl, Same.refl _, by rw [if_neg e]; exact hag⟩
  rintro σ H2 ⟨av, rfl, s2, hav⟩
  have hle2 := TmAt.mono (tups_of s2) _ _ hle
  have hn2 := TmAt.mono (tups_of s2) _ _ hn
  -- way 2
  refine ⟨fun σ H' => ∃ av, σ = stP way twice (some (.ref a1)) (some (.ref a3)) (some av) none none none ∧ Same H2 H' ∧ TmAt H' (again way) av, ?_, ?_⟩
  · refine ⟨_, rfl, .inl ⟨rfl, _, rfl, ite2 (fun c => ?_) (fun c => ?_)⟩⟩
    · have e : way = 2 := by have := of_decide_eq_true c; injection this with this; omega
      refine ⟨_, rfl, one1, fun c1 d1 => ⟨three3, fun c2 d2 => ?_⟩⟩
      have t1 := same_new d1 (.tup [.ref a3])
      have t2 := same_new d2 (.tup [.str "call", .str "g", .ref c1])
      refine ⟨.ref c2, rfl, t1.trans t2, ?_⟩
      subst e
      exact ⟨c2, c1, .ref a3, rfl, upd_same, t2 _ _ upd_same, TmAt.mono (tups_of (t1.trans t2)) _ _ hle2⟩
    · have e : ¬ way = 2 := fun z => c (by subst z; decide)
      refine ⟨av, rfl, Same.refl _, ?_⟩
      have e2 : (if way = 1 then 1 else 0) = way := by split <;> omega
      rw [e2] at hav
      exact hav
  rintro σ H3 ⟨av3, rfl, s3', hav3⟩
  have hn3 := TmAt.mono (tups_of s3') _ _ hn2
  -- body, first
  refine ⟨_, rfl, two2, fun c1 d1 => ⟨z4, fun c2 d2 => ⟨two2, fun c3 d3 => ⟨two2, fun c4 d4 => ⟨_, rfl, z4, fun c5 d5 => ⟨z4, fun c6 d6 => ?_⟩⟩⟩⟩⟩⟩
  have t1 := same_new d1 (.tup [.str "number", .int 1])
  have t2 := same_new d2 (.tup [.str "two", .str "<", .ref a1, .ref c1])
  have t3 := same_new d3 (.tup [.str "number", .int 0])
  have t4 := same_new d4 (.tup [.str "number", .int 1])
  have t5 := same_new d5 (.tup [.str "two", .str "+", .ref c4, av3])
  have t6 := same_new d6 (.tup [.str "if", .ref c2, .ref c3, .ref c5])
  have t56 := t5.trans t6
  have t46 := t4.trans t56
  have t36 := t3.trans t46
  have t26 := t2.trans t36
  have t16 := t1.trans t26
  have hbody : TmAt _ (bodyF way) (.ref c6) := ⟨c6, .ref c2, .ref c3, .ref c5, rfl, (upd_same : (upd _ c6 (.tup [.str "if", .ref c2, .ref c3, .ref c5])) c6 = _), ⟨c2, .ref a1, .ref c1, rfl, t36 _ _ upd_same, TmAt.mono (tups_of t16) _ _ hn3, c1, rfl, t26 _ _ upd_same⟩, ⟨c3, rfl, t46 _ _ upd_same⟩, ⟨c5, .ref c4, av3, rfl, t6 _ _ upd_same, ⟨c4, rfl, t56 _ _ upd_same⟩, TmAt.mono (tups_of t16) _ _ hav3⟩⟩
  refine ⟨_, rfl, one1, fun c7 d7 => ⟨three3, fun c8 d8 => ?_⟩⟩
  have t7 := same_new d7 (.tup [.ref a1])
  have t8 := same_new d8 (.tup [.str "call", .str "f", .ref c7])
  have t78 := t7.trans t8
  have t18 := t16.trans t78
  have hn8 := TmAt.mono (tups_of t18) _ _ hn3
  have hbody8 := TmAt.mono (tups_of t78) _ _ hbody
  have hfi : TmAt _ (first 0) (.ref c8) := ⟨c8, c7, .ref a1, rfl, (upd_same : (upd _ c8 (.tup [.str "call", .str "f", .ref c7])) c8 = _), t8 _ _ upd_same, hn8⟩
  have sB := sA.trans (s2.trans (s3'.trans t18))
  refine ⟨fun σ H' => ∃ fv, σ = stP way twice (some (.ref a1)) (some (.ref a3)) (some av3) (some (.ref c6)) (some fv) none ∧ Same H H' ∧ TmAt H' (.name "n") (.ref a1) ∧ TmAt H' (bodyF way) (.ref c6) ∧ TmAt H' (first (if twice = 1 then 1 else 0)) fv, ?_, ?_⟩
  · refine ⟨_, rfl, .inl ⟨rfl, _, rfl, ite2 (fun c => ?_) (fun c => ?_)⟩⟩
    · have e : twice = 1 := by have := of_decide_eq_true c; injection this with this; omega
      refine ⟨_, rfl, _, rfl, one1, fun e1 f1 => ⟨three3, fun e2 f2 => ⟨z4, fun e3 f3 => ?_⟩⟩⟩
      have u1 := same_new f1 (.tup [.ref a1])
      have u2 := same_new f2 (.tup [.str "call", .str "f", .ref e1])
      have u3 := same_new f3 (.tup [.str "two", .str "+", .ref c8, .ref e2])
      have uA := u1.trans (u2.trans u3)
      refine ⟨.ref e3, rfl, sB.trans uA, TmAt.mono (tups_of uA) _ _ hn8, TmAt.mono (tups_of uA) _ _ hbody8, ?_⟩
      rw [if_pos e]
      exact ⟨e3, .ref c8, .ref e2, rfl, upd_same, TmAt.mono (tups_of uA) _ _ hfi, ⟨e2, e1, .ref a1, rfl, u3 _ _ upd_same, (u2.trans u3) _ _ upd_same, TmAt.mono (tups_of uA) _ _ hn8⟩⟩
    · have e : ¬ twice = 1 := fun z => c (by subst z; decide)
      exact ⟨.ref c8, rfl, sB, hn8, hbody8, by rw [if_neg e]; exact hfi⟩
  rintro σ H4 ⟨fv, rfl, s4', hn4, hb4, hf4⟩
  refine ⟨fun σ H' => ∃ fv, σ = stP way twice (some (.ref a1)) (some (.ref a3)) (some av3) (some (.ref c6)) (some fv) none ∧ Same H H' ∧ TmAt H' (.name "n") (.ref a1) ∧ TmAt H' (bodyF way) (.ref c6) ∧ TmAt H' (first twice) fv, ?_, ?_⟩
  · refine ⟨_, rfl, .inl ⟨rfl, _, rfl, ite2 (fun c => ?_) (fun c => ?_)⟩⟩
    · have e : twice = 2 := by have := of_decide_eq_true c; injection this with this; omega
      refine ⟨_, rfl, two2, fun e0 f0 => ⟨one1, fun e1 f1 => ⟨three3, fun e2 f2 => ⟨z4, fun e3 f3 => ?_⟩⟩⟩⟩
      have u0 := same_new f0 (.tup [.str "name", .str "m"])
      have u1 := same_new f1 (.tup [.ref e0])
      have u2 := same_new f2 (.tup [.str "call", .str "f", .ref e1])
      have u3 := same_new f3 (.tup [.str "let", .str "m", fv, .ref e2])
      have uA := u0.trans (u1.trans (u2.trans u3))
      refine ⟨.ref e3, rfl, s4'.trans uA, TmAt.mono (tups_of uA) _ _ hn4, TmAt.mono (tups_of uA) _ _ hb4, ?_⟩
      subst e
      exact ⟨e3, fv, .ref e2, rfl, upd_same, TmAt.mono (tups_of uA) _ _ hf4, ⟨e2, e1, .ref e0, rfl, u3 _ _ upd_same, (u2.trans u3) _ _ upd_same, e0, rfl, (u1.trans (u2.trans u3)) _ _ upd_same⟩⟩
    · have e : ¬ twice = 2 := fun z => c (by subst z; decide)
      have e2 : (if twice = 1 then 1 else 0) = twice := by split <;> omega
      rw [e2] at hf4
      exact ⟨fv, rfl, s4', hn4, hb4, hf4⟩
  rintro σ H5 ⟨fv5, rfl, s5', hn5, hb5, hf5⟩
  -- further, and all
  refine ⟨one1, fun g1 k1 => ⟨_, rfl, one1, fun g2 k2 => ⟨three3, fun g3 k3 => ⟨z4, fun g4 k4 => ?_⟩⟩⟩⟩
  have v1 := same_new k1 (.tup [.str "n"])
  have v2 := same_new k2 (.tup [.ref a1])
  have v3 := same_new k3 (.tup [.str "call", .str "f", .ref g2])
  have v4 := same_new k4 (.tup [.str "def", .str "g", .ref g1, .ref g3])
  have v34 := v3.trans v4
  have v14 := v1.trans (v2.trans v34)
  have hg : DnAt _ ⟨"g", "n", .call "f" (.name "n")⟩ (.ref g4) := ⟨g4, g1, .ref g3, rfl, (upd_same : (upd _ g4 (.tup [.str "def", .str "g", .ref g1, .ref g3])) g4 = _), (v2.trans v34) _ _ upd_same, ⟨g3, g2, .ref a1, rfl, v4 _ _ upd_same, v34 _ _ upd_same, TmAt.mono (tups_of v14) _ _ hn5⟩⟩
  refine ⟨one1, fun g5 k5 => ⟨_, rfl, z4, fun g6 k6 => ⟨_, rfl, one1, fun g7 k7 => ⟨_, rfl, z4, fun g8 k8 => ⟨three3, fun g9 k9 => ?_⟩⟩⟩⟩⟩
  have w5 := same_new k5 (.tup [.str "n"])
  have w6 := same_new k6 (.tup [.str "def", .str "f", .ref g5, .ref c6])
  have w7 := same_new k7 (.tup [.str "n"])
  have w8 := same_new k8 (.tup [.str "def", .str "main", .ref g7, fv5])
  have w9 := same_new k9 (.tup [.ref g6, .ref g4, .ref g8])
  have w89 := w8.trans w9
  have w79 := w7.trans w89
  have w69 := w6.trans w79
  have w59 := w5.trans w69
  have vA := v14.trans w59
  exact q _ _ (s5'.trans vA) ⟨g9, _, rfl, upd_same, .cons ⟨g6, g5, .ref c6, rfl, w79 _ _ upd_same, w69 _ _ upd_same, TmAt.mono (tups_of vA) _ _ hb5⟩ (.cons (hg.mono (tups_of w59)) (.cons ⟨g8, g7, fv5, rfl, w9 _ _ upd_same, w89 _ _ upd_same, TmAt.mono (tups_of vA) _ _ hf5⟩ .nil))⟩
end
end RK
set_option maxHeartbeats 4000000
namespace RK
open PySem L2 BV
seal PE PT PW PA PS PSs PTs PI PG PGs PO
abbrev s_law_one : Stmt := BV.top 38
theorem sc_law_one : FnScope ["_law_number", "_law_way", "_law_calls", "_law_most", "_law_wide", "_law_k"] ["_law_number", "_law_way", "_law_calls", "_law_most"] (defScope s_law_one) := ⟨rfl, rfl, rfl, by decide +kernel, rfl, by decide +kernel, by decide +kernel⟩
section
variable {P : Program} {w : World} {K : PySem.W.Frag} {mg : Str → Option Value} {base : Heap} {f : Addr} {fd : FuncData}
def spOne : Sp := fun vs H Q _ => ∃ (n way : Nat) (c0 most : Int), vs = [.int (n : Nat), .int (way : Nat), .int c0, .int most] ∧ way < 3 ∧ n ≤ 1000 ∧ (∀ r p H', fails most (calls way n) c0 1 = some r → Same H H' → ReAt H' r (.ref p) → Q (.ref p) H') ∧ (fails most (calls way n) c0 1 = none → Q (.int (c0 + (calls way n : Nat))) H)
theorem ok_law_one (F : Fun K "_law_one" "_law_one" s_law_one f fd) (B : BV.NoG mg) : FnOk P w K mg base CX0 1 f fd ["_law_number", "_law_way", "_law_calls", "_law_most"] spOne := by
  refine F.ok sc_law_one (fun vs H Q E h => ?_) (fun cdv A outer s H vs Q E hr h => ?_)
  · obtain ⟨n, way, c0, most, rfl, _⟩ := h
    rfl
  obtain ⟨n, way, c0, most, rfl, hw, hn, q1, q2⟩ := h
  have nd := sc_law_one.nd
  have hu := hr.units0
  refine ⟨_, (pss_cons (ps_set (i := 4) nd rfl (Or.inl rfl) pe_int)
      (pss_cons (ps_cut (ps_for PassesOwn.never rfl (pi_range1 rfl B.range_ (pa_cons (pe_op uAdd pe_int (pe_op uMul (pv 0) (pe_op uAdd pe_int (pe_callTy call_int_txt rfl B.int_ bt_int (pa_cons (pe_cmpR op_gt (pv 1) pe_int rfl) pa_nil))))) pa_nil)) (pg_name (i := 5) nd rfl (Or.inl rfl)) (pss_cons (ps_set (i := 2) nd rfl (Or.inl rfl) (pe_op uAdd (pv 2) pe_int))
      (pss_cons (ps_set (i := 4) nd rfl (Or.inl rfl) (pe_op uAdd (pv 4) pe_int))
      (pss_cons (ps_if (pt_cmpR op_gt (pv 2) (pv 3) rfl) (pss_one (ps_ret (pe_tup (pa_cons pe_str pa_nil)))) pss_nil)
      (pss_one (ps_if (pt_cmpR op_gt (pv 4) pe_int rfl) (pss_one (ps_ret (pe_tup (pa_cons pe_str pa_nil)))) pss_nil)))))))
      (pss_one (ps_ret (pv 2))))), ?_⟩
  have hb : (1 + (if decide ((0 : Int) < (way : Nat)) = true then (1 : Int) else 0)) = ((if way = 0 then 1 else 2 : Nat) : Int) := by
    by_cases e : way = 0
    · subst e; rfl
    · rw [if_pos (decide_eq_true (by omega)), if_neg e]; rfl
  refine ⟨fun σ H' => σ = [some (.int (n : Nat)), some (.int (way : Nat)), some (.int (c0 + (calls way n : Nat))), some (.int most), some (.int (1 + (calls way n : Nat))), (σ[5]?).getD none] ∧ H = H' ∧ fails most (calls way n) c0 1 = none, ?_, ?_⟩
  · refine ⟨_, rfl, _, rfl, _, _, rfl, rfl, .inl ⟨_, rfl, .inl ⟨_, _, rfl, rfl, .inl ⟨_, _, rfl, rfl, .inr ?_, .inl ⟨_, _, rfl, rfl, _, rfl, ?_⟩⟩⟩⟩⟩
    · split <;> exact ⟨by decide, by decide⟩
    have hK : (1 : Int) + (n : Nat) * (1 + (if decide ((0 : Int) < (way : Nat)) = true then 1 else 0)) = (calls way n : Nat) := by
      rw [hb]
      unfold calls
      by_cases e : way = 0
      · subst e; simp
      · simp [e]; omega
    have hKle : calls way n ≤ 3000 := by
      unfold calls
      split <;> omega
    refine ⟨by show (-2 ^ 62 : Int) ≤ (1 : Int) + (n : Nat) * (1 + (if decide ((0 : Int) < (way : Nat)) = true then 1 else 0)); rw [hK]; omega, by show (1 : Int) + (n : Nat) * (1 + (if decide ((0 : Int) < (way : Nat)) = true then 1 else 0)) < _; rw [hK]; omega, ?_⟩
    refine for_range (n := ((1 : Int) + (n : Nat) * (1 + (if decide ((0 : Int) < (way : Nat)) = true then 1 else 0))).toNat) (fun i σ H' => ∃ x, σ = [some (.int (n : Nat)), some (.int (way : Nat)), some (.int (c0 + (i : Nat))), some (.int most), some (.int (1 + (i : Nat))), x] ∧ H = H' ∧ i ≤ calls way n ∧ fails most (calls way n) c0 1 = fails most (calls way n - i) (c0 + (i : Nat)) (1 + (i : Nat))) ?_ ?_ ?_
    · exact ⟨none, by rw [show c0 + ((0 : Nat) : Int) = c0 by omega, show (1 : Int) + ((0 : Nat) : Int) = 1 by omega]; rfl, rfl, Nat.zero_le _, by rw [show c0 + ((0 : Nat) : Int) = c0 by omega, show (1 : Int) + ((0 : Nat) : Int) = 1 by omega, Nat.sub_zero]⟩
    · rintro i σ H' hi ⟨x, rfl, rfl, hi2, hf⟩
      rw [hK, Int.toNat_natCast] at hi
      obtain ⟨k, hk⟩ : ∃ k, calls way n - i = k + 1 := ⟨calls way n - i - 1, by omega⟩
      rw [hk, fails_succ] at hf
      refine ⟨_, rfl, .inl ⟨_, _, rfl, rfl, _, rfl, .inl ⟨_, _, rfl, rfl, ?_⟩⟩⟩
      refine ⟨_, rfl, _, rfl, _, _, rfl, rfl, _, rfl, ite2 (fun c => ?_) (fun c => ?_)⟩
      · have c' : most < c0 + (i : Nat) + 1 := of_decide_eq_true c
        rw [if_pos (by omega)] at hf
        exact ⟨one1, fun p hp => q1 _ p _ hf (same_new hp _) ⟨p, rfl, upd_same⟩⟩
      have c' : ¬ most < c0 + (i : Nat) + 1 := fun z => c (decide_eq_true z)
      rw [if_neg (by omega)] at hf
      refine ⟨_, rfl, _, _, rfl, rfl, _, rfl, ite2 (fun c => ?_) (fun c => ?_)⟩
      · have c' : (60 : Int) < 1 + (i : Nat) + 1 := of_decide_eq_true c
        rw [if_pos (by omega)] at hf
        exact ⟨one1, fun p hp => q1 _ p _ hf (same_new hp _) ⟨p, rfl, upd_same⟩⟩
      have c' : ¬ (60 : Int) < 1 + (i : Nat) + 1 := fun z => c (decide_eq_true z)
      rw [if_neg (by omega)] at hf
      refine ⟨some (.int (0 + (i : Nat))), ?_, rfl, by omega, ?_⟩
      · rw [show c0 + ((i + 1 : Nat) : Int) = c0 + (i : Nat) + 1 by omega, show (1 : Int) + ((i + 1 : Nat) : Int) = 1 + (i : Nat) + 1 by omega]
        rfl
      · rw [hf, show calls way n - (i + 1) = k by omega, show c0 + ((i + 1 : Nat) : Int) = c0 + (i : Nat) + 1 by omega, show (1 : Int) + ((i + 1 : Nat) : Int) = 1 + (i : Nat) + 1 by omega]
    · rintro σ H' ⟨x, rfl, rfl, hi2, hf⟩
      rw [hK, Int.toNat_natCast] at hf ⊢
      rw [Nat.sub_self] at hf
      exact ⟨rfl, rfl, hf⟩
  rintro σ H' ⟨e, rfl, hf⟩
  rw [e]
  exact ⟨_, rfl, q2 hf⟩
end
end RK
set_option maxHeartbeats 8000000
namespace RK
open PySem L2 BV
seal PE PT PW PA PS PSs PTs PI PG PGs PO
abbrev s_law : Stmt := BV.top 39
theorem sc_law : FnScope ["_law_script", "_law_number", "_law_way", "_law_twice", "_law_cell", "_law_most", "_law_found", "_law_calls", "_law_due"] ["_law_script"] (defScope s_law) := ⟨rfl, rfl, rfl, by decide +kernel, rfl, by decide +kernel, by decide +kernel⟩
theorem nat_mod {c : Int} {k : Int} (hk : 0 < k) : ∃ m : Nat, c % k = (m : Nat) ∧ (m : Int) < k := by
  obtain ⟨m, hm⟩ := Int.eq_ofNat_of_zero_le (Int.emod_nonneg c (Int.ne_of_gt hk))
  exact ⟨m, hm, by have := Int.emod_lt_of_pos c hk; omega⟩
theorem pick5 {a b c d e : Int} {k : Int} : ∃ v, atI [V.int a, .int b, .int c, .int d, .int e] (k % 5) = some (.int v) := by
  obtain ⟨m, hm, hl⟩ := nat_mod (c := k) (k := 5) (by decide)
  rw [hm]
  have h : m = 0 ∨ m = 1 ∨ m = 2 ∨ m = 3 ∨ m = 4 := by omega
  rcases h with rfl | rfl | rfl | rfl | rfl
  · exact ⟨a, rfl⟩
  · exact ⟨b, rfl⟩
  · exact ⟨c, rfl⟩
  · exact ⟨d, rfl⟩
  · exact ⟨e, rfl⟩
theorem kit_tt {K : PySem.W.Frag} : PySem.W.kitOne K (.type "tuple") (.type "tuple") = some true := rfl
theorem kit_ii {K : PySem.W.Frag} : PySem.W.kitOne K (.type "int") (.type "int") = some true := by rfl
theorem kit_ib {K : PySem.W.Frag} : PySem.W.kitOne K (.type "int") (.type "bool") = some false := by rfl
def tupOf : Res → List V
  | .value n => [.str "value", .int n]
  | .dry => [.str "dry"]
  | _ => [.str "deep"]
theorem tup_re {H : Hp} {r : Res} {v : V} (hr : isEnd r = true) (h : ReAt H r v) : ∃ p, v = .ref p ∧ H p = some (.tup (tupOf r)) := by
  cases r with
  | st => cases hr
  | dry => exact h
  | deep => exact h
  | value n => exact h
theorem fails_end {most : Int} : ∀ (k : Nat) (c d : Int) (r : Res), fails most k c d = some r → isEnd r = true
  | 0, _, _, _, h => by cases h
  | k + 1, c, d, r, h => by
    unfold fails at h
    split at h
    · cases h; rfl
    split at h
    · cases h; rfl
    exact fails_end k _ _ r h
theorem ends_end {way twice : Nat} {most : Int} {n : Nat} : isEnd (ends way twice most n) = true := by
  unfold ends
  split
  · rename_i h; exact fails_end _ _ _ _ h
  split
  · rfl
  · split
    · rename_i h; exact fails_end _ _ _ _ h
    · rfl
  · split
    · rename_i h; exact fails_end _ _ _ _ h
    · rfl
/-- what the second row of calls brings -/
def fst2 (way twice : Nat) (most : Int) (n : Nat) : Option Res := match fails most (calls way n) 0 1 with
  | some r => some r
  | none => if twice = 0 then none else fails most (calls way n) (calls way n : Nat) 1
theorem ends_fst {way twice : Nat} {most : Int} {n : Nat} (ht : twice < 3) : ends way twice most n = match fst2 way twice most n with
  | some r => r
  | none => .value (n * (1 + if twice = 1 then 1 else 0)) := by
  have h : twice = 0 ∨ twice = 1 ∨ twice = 2 := by omega
  unfold ends fst2
  cases fails most (calls way n) 0 1 with
  | some r => rfl
  | none =>
    rcases h with rfl | rfl | rfl
    · simp
    · simp only [if_neg (by decide : ¬ (1 : Nat) = 0)]
      cases fails most (calls way n) (calls way n : Nat) 1 with
      | some r => rfl
      | none => simp; omega
    · simp only [if_neg (by decide : ¬ (2 : Nat) = 0)]
      cases fails most (calls way n) (calls way n : Nat) 1 with
      | some r => rfl
      | none => simp
theorem tup_plain (r : Res) : (tupOf r).all plainV = true := by cases r <;> rfl
section
variable {P : Program} {w : World} {K : PySem.W.Frag} {mg : Str → Option Value} {base : Heap} {f : Addr} {fd : FuncData} {f_law_cell_at f_law_program f_law_one f_reckoned : Addr} {d_law_cell_at d_law_program d_law_one d_reckoned : FuncData}
def stL (sa : Addr) (a1 a2 a3 a4 a5 a6 a7 a8 : Option V) : St := [some (.ref sa), a1, a2, a3, a4, a5, a6, a7, a8]
def spLaw (K : PySem.W.Frag) : Sp := fun vs H Q _ => ∃ (a : Addr) (ns : List Int), vs = [.ref a] ∧ SqL K H a (ns.map V.int) ∧ ns.length ≤ 63 ∧ ∀ H', Q (.bl true) H'
theorem ok_law (F : Fun K "law" "law" s_law f fd) (B : BV.NoG mg)
    (G_law_cell_at : FnOk P w K mg base CX0 1 f_law_cell_at d_law_cell_at ["_law_script", "_law_k"] (spCell K)) (b_law_cell_at : Binds K d_law_cell_at ["_law_script", "_law_k"] []) (k_law_cell_at : PySem.W.keepIn K (.ref f_law_cell_at) = true) (m_law_cell_at : mg "_law_cell_at" = some (.ref f_law_cell_at))
    (G_law_program : FnOk P w K mg base CX0 1 f_law_program d_law_program ["_law_way", "_law_twice"] spPg) (b_law_program : Binds K d_law_program ["_law_way", "_law_twice"] []) (k_law_program : PySem.W.keepIn K (.ref f_law_program) = true) (m_law_program : mg "_law_program" = some (.ref f_law_program))
    (G_law_one : FnOk P w K mg base CX0 1 f_law_one d_law_one ["_law_number", "_law_way", "_law_calls", "_law_most"] spOne) (b_law_one : Binds K d_law_one ["_law_number", "_law_way", "_law_calls", "_law_most"] []) (k_law_one : PySem.W.keepIn K (.ref f_law_one) = true) (m_law_one : mg "_law_one" = some (.ref f_law_one))
    (G_reckoned : FnOk P w K mg base CX0 7 f_reckoned d_reckoned ["program", "numbers", "most"] spRk) (b_reckoned : Binds K d_reckoned ["program", "numbers", "most"] []) (k_reckoned : PySem.W.keepIn K (.ref f_reckoned) = true) (m_reckoned : mg "reckoned" = some (.ref f_reckoned)) :
    FnOk P w K mg base CX0 8 f fd ["_law_script"] (spLaw K) := by
  refine F.ok sc_law (fun vs H Q E h => ?_) (fun cdv A outer s H vs Q E hr h => ?_)
  · obtain ⟨a, ns, rfl, _⟩ := h
    rfl
  obtain ⟨sa, ns, rfl, hS, hn, q⟩ := h
  have nd := sc_law.nd
  have hu := hr.units0
  have z5 : (5 : Nat) ≤ sizeLine := by decide
  refine ⟨_, (pss_cons (ps_set (i := 1) nd rfl (Or.inl rfl) (pe_op op_mod (pe_call G_law_cell_at (hr.mono (by first | decide | omega)) rfl m_law_cell_at k_law_cell_at b_law_cell_at .nil pass0 (pa_cons (pv 0) (pa_cons pe_int pa_nil))) pe_int))
      (pss_cons (ps_set (i := 2) nd rfl (Or.inl rfl) (pe_op op_mod (pe_call G_law_cell_at (hr.mono (by first | decide | omega)) rfl m_law_cell_at k_law_cell_at b_law_cell_at .nil pass0 (pa_cons (pv 0) (pa_cons pe_int pa_nil))) pe_int))
      (pss_cons (ps_set (i := 3) nd rfl (Or.inl rfl) (pe_op op_mod (pe_op op_fdiv (pe_call G_law_cell_at (hr.mono (by first | decide | omega)) rfl m_law_cell_at k_law_cell_at b_law_cell_at .nil pass0 (pa_cons (pv 0) (pa_cons pe_int pa_nil))) pe_int) pe_int))
      (pss_cons (ps_set (i := 4) nd rfl (Or.inl rfl) (pe_call G_law_cell_at (hr.mono (by first | decide | omega)) rfl m_law_cell_at k_law_cell_at b_law_cell_at .nil pass0 (pa_cons (pv 0) (pa_cons pe_int pa_nil))))
      (pss_cons (ps_set (i := 5) nd rfl (Or.inl rfl) (pe_ix (kIx (K := K) (w := w)) (pe_lst (pa_cons (pe_op op_mod (pe_op op_fdiv (pv 4) pe_int) pe_int) (pa_cons (pe_op op_mod (pe_op op_fdiv (pv 4) pe_int) pe_int) (pa_cons (pv 1) (pa_cons pe_int (pa_cons (pe_op uAdd pe_int (pe_op op_mod (pe_op op_fdiv (pv 4) pe_int) pe_int)) pa_nil)))))) (pe_op op_mod (pv 4) pe_int) (fun _ _ => rfl)))
      (pss_cons (ps_cut (ps_if (PW.pt (pw_and (pt_cmpR op_gt (pe_op op_mod (pv 4) pe_int) pe_int rfl) (pw_and1 (pt_cmpR op_gt (pe_op op_mod (pe_op op_fdiv (pv 4) pe_int) pe_int) pe_int rfl)))) (pss_one (ps_set (i := 1) nd rfl (Or.inl rfl) (pe_op uAdd pe_int (pe_op op_mod (pe_op op_fdiv (pv 4) pe_int) pe_int)))) pss_nil))
      (pss_cons (ps_set (i := 6) nd rfl (Or.inl rfl) (pe_call G_reckoned (hr.mono (by first | decide | omega)) rfl m_reckoned k_reckoned b_reckoned .nil pass0 (pa_cons (pe_call G_law_program (hr.mono (by first | decide | omega)) rfl m_law_program k_law_program b_law_program .nil pass0 (pa_cons (pv 2) (pa_cons (pv 3) pa_nil))) (pa_cons (pe_lst (pa_cons (pv 1) pa_nil)) (pa_cons (pv 5) pa_nil)))))
      (pss_cons (ps_cut (ps_set (i := 7) nd rfl (Or.inl rfl) (pe_call G_law_one (hr.mono (by first | decide | omega)) rfl m_law_one k_law_one b_law_one .nil pass0 (pa_cons (pv 1) (pa_cons (pv 2) (pa_cons pe_int (pa_cons (pv 5) pa_nil)))))))
      (pss_cons (ps_cut (ps_if (PW.pt (pw_and (pt_cmpR op_gt (pv 3) pe_int rfl) (pw_and1 (pt_not (k_truth (K := K) (pe_callB (k_isi (K := K)) rfl B.isinstance_ bt_isinstance (pa_cons (pv 7) (pa_cons (pe_bltn (v := .ty "tuple") rfl B.tuple_ bt_tuple rfl) pa_nil))) (fun _ => rfl)))))) (pss_one (ps_cut (ps_set (i := 7) nd rfl (Or.inl rfl) (pe_call G_law_one (hr.mono (by first | decide | omega)) rfl m_law_one k_law_one b_law_one .nil pass0 (pa_cons (pv 1) (pa_cons (pv 2) (pa_cons (pv 7) (pa_cons (pv 5) pa_nil)))))))) pss_nil))
      (pss_cons (ps_cut (ps_set (i := 8) nd rfl (Or.inl rfl) (pe_tup (pa_cons pe_str (pa_cons (pe_op uMul (pv 1) (pe_op uAdd pe_int (pe_callTy call_int_txt rfl B.int_ bt_int (pa_cons (pe_cmpR (kEq (K := K) hu) (pv 3) pe_int rfl) pa_nil)))) pa_nil)))))
      (pss_cons (ps_cut (ps_if (k_truth (K := K) (pe_callB (k_isi (K := K)) rfl B.isinstance_ bt_isinstance (pa_cons (pv 7) (pa_cons (pe_bltn (v := .ty "tuple") rfl B.tuple_ bt_tuple rfl) pa_nil))) (fun _ => rfl)) (pss_one (ps_cut (ps_set (i := 8) nd rfl (Or.inl rfl) (pv 7)))) pss_nil))
      (pss_cons (ps_cut (ps_if (PW.pt (pw_or (pt_not (k_truth (K := K) (pe_callB (k_isi (K := K)) rfl B.isinstance_ bt_isinstance (pa_cons (pv 6) (pa_cons (pe_bltn (v := .ty "tuple") rfl B.tuple_ bt_tuple rfl) pa_nil))) (fun _ => rfl))) (pw_or1 (pt_cmpR (kNeT (K := K) hu) (pv 6) (pv 8) rfl)))) (pss_one (ps_ret pe_bl)) pss_nil))
      (pss_one (ps_ret (pe_or (pe_cmpR (kEq (K := K) hu) (pe_callB (k_len (K := K)) rfl B.len_ bt_len (pa_cons (pv 6) pa_nil)) pe_int rfl) (pe_one (pe_and (pe_callB (k_isi (K := K)) rfl B.isinstance_ bt_isinstance (pa_cons (pe_ix (kIx (K := K) (w := w)) (pv 6) pe_int (fun _ _ => rfl)) (pa_cons (pe_bltn (v := .ty "int") rfl B.int_ bt_int rfl) pa_nil))) (pe_one (pe_not (pe_callB (k_isi (K := K)) rfl B.isinstance_ bt_isinstance (pa_cons (pe_ix (kIx (K := K) (w := w)) (pv 6) pe_int (fun _ _ => rfl)) (pa_cons (pe_bltn (v := .ty "bool") rfl B.bool_ bt_bool rfl) pa_nil)))))))))))))))))))))), ?_⟩
  refine ⟨_, rfl, sa, ns, 0, rfl, hS, by decide, fun c1 => ⟨_, _, rfl, rfl, (by decide : (0 : Int) < 71), ?_⟩⟩
  refine ⟨_, rfl, sa, ns, 1, rfl, hS, by decide, fun c2 => ⟨_, _, rfl, rfl, (by decide : (0 : Int) < 3), ?_⟩⟩
  refine ⟨_, rfl, sa, ns, 1, rfl, hS, by decide, fun c3 => ⟨_, _, rfl, rfl, ⟨by decide, by decide⟩, _, _, rfl, rfl, (by decide : (0 : Int) < 3), ?_⟩⟩
  refine ⟨_, rfl, sa, ns, 2, rfl, hS, by decide, fun c4 => ?_⟩
  obtain ⟨nn, e1, l1⟩ := nat_mod (c := c1) (k := 71) (by decide)
  obtain ⟨way, e2, l2⟩ := nat_mod (c := c2) (k := 3) (by decide)
  obtain ⟨twice, e3, l3⟩ := nat_mod (c := c3 / 3) (k := 3) (by decide)
  show tSeq _ _ _ (stL sa (some (.int (c1 % 71))) (some (.int (c2 % 3))) (some (.int (c3 / 3 % 3))) (some (.int c4)) none none none none) H
  rw [e1, e2, e3]
  refine ⟨_, rfl, _, _, rfl, rfl, ⟨by decide, by decide⟩, _, _, rfl, rfl, (by decide : (0 : Int) < 1001), ?_⟩
  refine ⟨_, rfl, _, _, rfl, rfl, ⟨by decide, by decide⟩, _, _, rfl, rfl, (by decide : (0 : Int) < 70), _, rfl, ?_⟩
  refine ⟨_, rfl, _, _, rfl, rfl, ⟨by decide, by decide⟩, _, _, rfl, rfl, (by decide : (0 : Int) < 4), .inl ⟨_, _, rfl, rfl, z5, fun l hl => ?_⟩⟩
  obtain ⟨most, hmost⟩ := pick5 (a := c4 / 5 % 1001) (b := c4 / 5 % 70) (c := (nn : Nat)) (d := 59) (e := 58 + c4 / 5 % 4) (k := c4)
  refine ⟨_, rfl, _, _, rfl, rfl, (by decide : (0 : Int) < 5), .inl ⟨l, _, _, _, rfl, rfl, SqL.of upd_same, hmost, ?_⟩⟩
  have s1 := same_new hl (.lst [.int (c4 / 5 % 1001), .int (c4 / 5 % 70), .int (nn : Nat), .int 59, .int (58 + c4 / 5 % 4)])
  refine ⟨fun σ H' => ∃ n : Nat, n ≤ 70 ∧ σ = stL sa (some (.int (n : Nat))) (some (.int (way : Nat))) (some (.int (twice : Nat))) (some (.int c4)) (some (.int most)) none none none, ?_, ?_⟩
  · have els : ∃ n : Nat, n ≤ 70 ∧ stL sa (some (.int (nn : Nat))) (some (.int (way : Nat))) (some (.int (twice : Nat))) (some (.int c4)) (some (.int most)) none none none = stL sa (some (.int (n : Nat))) (some (.int (way : Nat))) (some (.int (twice : Nat))) (some (.int c4)) (some (.int most)) none none none := ⟨nn, by omega, rfl⟩
    refine ⟨_, rfl, _, _, rfl, rfl, (by decide : (0 : Int) < 5), _, _, rfl, rfl, _, rfl, ite2 (fun _ => ?_) (fun _ => ifF Bool.false_ne_true els)⟩
    refine ⟨_, rfl, _, _, rfl, rfl, ⟨by decide, by decide⟩, _, _, rfl, rfl, (by decide : (0 : Int) < 4), _, _, rfl, rfl, _, rfl, ite2 (fun _ => ?_) (fun _ => els)⟩
    refine ⟨_, rfl, _, _, rfl, rfl, ⟨by decide, by decide⟩, _, _, rfl, rfl, (by decide : (0 : Int) < 15), .inl ⟨_, _, rfl, rfl, ?_⟩⟩
    obtain ⟨m, em, lm⟩ := nat_mod (c := c4 / 80) (k := 15) (by decide)
    refine ⟨56 + m, by omega, ?_⟩
    exact congrArg (fun z : Int => stL sa (some (.int z)) (some (.int (way : Nat))) (some (.int (twice : Nat))) (some (.int c4)) (some (.int most)) none none none) (by rw [em]; omega)
  rintro σ H1 ⟨n, hn70, rfl⟩
  refine ⟨_, rfl, _, rfl, way, twice, rfl, by omega, by omega, fun gv H2 s2 hg => ⟨_, rfl, one1, fun l hl => ?_⟩⟩
  have sl := same_new hl (.lst [.int (n : Nat)])
  refine ⟨_, rfl, prog way twice, ⟨"main", "n", first twice⟩, (n : Int), most, ends way twice most n, gv, l, rfl, hg.mono (tups_of sl), (by show 3 ≤ 1000; decide), rfl, upd_same, ends_end, main_ends (by omega) (by omega) n (by omega), fun u H3 s3 hu3 => ?_⟩
  obtain ⟨q0, rfl, hq⟩ := tup_re ends_end hu3
  have he := ends_fst (way := way) (most := most) (n := n) (show twice < 3 by omega)
  generalize hE : ends way twice most n = E0 at he hq
  have t3 : twice < 3 := by omega
  have w3 : way < 3 := by omega
  have n1000 : n ≤ 1000 := by omega
  clear e1 e2 e3 l1 l2 l3 hmost s1 hE
  refine ⟨fun σ H' => ∃ a7, σ = stL sa (some (.int (n : Nat))) (some (.int (way : Nat))) (some (.int (twice : Nat))) (some (.int c4)) (some (.int most)) (some (.ref q0)) (some a7) none ∧ H' q0 = some (.tup (tupOf E0)) ∧ ((∃ r p, fails most (calls way n) 0 1 = some r ∧ a7 = .ref p ∧ H' p = some (.tup (tupOf r))) ∨ (fails most (calls way n) 0 1 = none ∧ a7 = .int (0 + (calls way n : Nat)))), ?_, ?_⟩
  · refine ⟨_, rfl, _, rfl, _, rfl, n, way, 0, most, rfl, w3, n1000, fun r p H' hr sm hre => ?_, fun hno => ⟨_, rfl, hq, .inr ⟨hno, rfl⟩⟩⟩
    obtain ⟨p', e, h⟩ := tup_re (fails_end _ _ _ _ hr) hre
    cases e
    exact ⟨_, rfl, sm _ _ hq, .inl ⟨r, p, hr, rfl, h⟩⟩
  rintro σ H4 ⟨a7, rfl, hq4, hc⟩
  refine ⟨fun σ H' => ∃ a7, σ = stL sa (some (.int (n : Nat))) (some (.int (way : Nat))) (some (.int (twice : Nat))) (some (.int c4)) (some (.int most)) (some (.ref q0)) (some a7) none ∧ H' q0 = some (.tup (tupOf E0)) ∧ ((∃ p, a7 = .ref p ∧ H' p = some (.tup (tupOf E0))) ∨ (∃ c, a7 = .int c ∧ E0 = .value (n * (1 + if twice = 1 then 1 else 0)))), ?_, ?_⟩
  · rcases hc with ⟨r, p, hr, rfl, hp⟩ | ⟨hno, rfl⟩
    · have eE : E0 = r := by rw [he]; unfold fst2; rw [hr]
      have hp' : H4 p = some (.tup (tupOf E0)) := by rw [eE]; exact hp
      refine ⟨_, rfl, _, _, rfl, rfl, _, rfl, ite2 (fun c => ?_) (fun c => ifF Bool.false_ne_true ⟨_, rfl, hq4, .inl ⟨p, rfl, hp'⟩⟩)⟩
      exact ⟨_, rfl, _, _, _, _, rfl, .tup hp, kit_tt, true, rfl, ifF (by decide) ⟨_, rfl, hq4, .inl ⟨p, rfl, hp'⟩⟩⟩
    · refine ⟨_, rfl, _, _, rfl, rfl, _, rfl, ite2 (fun c => ?_) (fun c => ifF Bool.false_ne_true ?_)⟩
      · have c' : (0 : Int) < (twice : Nat) := of_decide_eq_true c
        have t1 : ¬ twice = 0 := by omega
        refine ⟨_, rfl, _, _, _, _, rfl, .int _, kit_it, false, rfl, ifT (by decide) ?_⟩
        refine ⟨fun σ H' => ∃ a7, σ = stL sa (some (.int (n : Nat))) (some (.int (way : Nat))) (some (.int (twice : Nat))) (some (.int c4)) (some (.int most)) (some (.ref q0)) (some a7) none ∧ H' q0 = some (.tup (tupOf E0)) ∧ ((∃ p, a7 = .ref p ∧ H' p = some (.tup (tupOf E0))) ∨ (∃ c, a7 = .int c ∧ E0 = .value (n * (1 + if twice = 1 then 1 else 0)))), ?_, fun _ _ h => h⟩
        refine ⟨_, rfl, _, rfl, _, rfl, _, rfl, n, way, _, most, rfl, w3, n1000, fun r p H' hr sm hre => ?_, fun hn2 => ?_⟩
        · rw [Int.zero_add] at hr
          have f2 : fst2 way twice most n = some r := by unfold fst2; rw [hno]; exact (if_neg t1).trans hr
          obtain ⟨p', e, h⟩ := tup_re (fails_end _ _ _ _ hr) hre
          cases e
          have eE : E0 = r := by rw [he, f2]
          exact ⟨_, rfl, sm _ _ hq4, .inl ⟨p, rfl, by rw [eE]; exact h⟩⟩
        · rw [Int.zero_add] at hn2
          have f2 : fst2 way twice most n = none := by unfold fst2; rw [hno]; exact (if_neg t1).trans hn2
          exact ⟨_, rfl, hq4, .inr ⟨_, rfl, by rw [he, f2]⟩⟩
      · have c' : ¬ (0 : Int) < (twice : Nat) := fun z => c (decide_eq_true z)
        have f2 : fst2 way twice most n = none := by unfold fst2; rw [hno]; exact if_pos (by omega)
        exact ⟨_, rfl, hq4, .inr ⟨_, rfl, by rw [he, f2]⟩⟩
  rintro σ H5 ⟨a7, rfl, hq5, hc5⟩
  refine ⟨fun σ H' => ∃ a8, σ = stL sa (some (.int (n : Nat))) (some (.int (way : Nat))) (some (.int (twice : Nat))) (some (.int c4)) (some (.int most)) (some (.ref q0)) (some a7) (some (.ref a8)) ∧ H' q0 = some (.tup (tupOf E0)) ∧ H' a8 = some (.tup [.str "value", .int (n * (1 + if twice = 1 then 1 else 0))]) ∧ ((∃ p, a7 = .ref p ∧ H' p = some (.tup (tupOf E0))) ∨ (∃ c, a7 = .int c ∧ E0 = .value (n * (1 + if twice = 1 then 1 else 0)))), ?_, ?_⟩
  · have hb : (if decide ((V.int (twice : Nat)) = V.int 1) = true then (1 : Int) else 0) = if twice = 1 then 1 else 0 := by
      by_cases e : twice = 1
      · subst e; rfl
      · rw [if_neg e, if_neg (by simp; omega)]
    refine ⟨_, rfl, _, rfl, .inl ⟨rfl, .inl ⟨_, rfl, .inl ⟨_, _, rfl, rfl, .inl ⟨_, _, rfl, rfl, .inr ?_, two2, fun a8 ha8 => ?_⟩⟩⟩⟩⟩
    · split <;> exact ⟨by decide, by decide⟩
    have s8 := same_new ha8 (.tup [.str "value", .int (n * (1 + if twice = 1 then 1 else 0))])
    refine ⟨a8, rfl, ?_, ?_, ?_⟩
    · exact (same_new ha8 _) _ _ hq5
    · show upd H5 a8 (.tup [.str "value", .int (n * (1 + (if decide (V.int (twice : Nat) = V.int 1) = true then 1 else 0)))]) a8 = _
      rw [hb]
      exact upd_same
    · exact hc5.imp (fun ⟨p, e, h⟩ => ⟨p, e, (same_new ha8 _) _ _ h⟩) id
  rintro σ H6 ⟨a8, rfl, hq6, h8, hc6⟩
  refine ⟨fun σ H' => ∃ a8, σ = stL sa (some (.int (n : Nat))) (some (.int (way : Nat))) (some (.int (twice : Nat))) (some (.int c4)) (some (.int most)) (some (.ref q0)) (some a7) (some (.ref a8)) ∧ H' q0 = some (.tup (tupOf E0)) ∧ H' a8 = some (.tup (tupOf E0)), ?_, ?_⟩
  · rcases hc6 with ⟨p, rfl, hp⟩ | ⟨c, rfl, eV⟩
    · refine ⟨_, rfl, _, _, _, _, rfl, .tup hp, kit_tt, true, rfl, ifT rfl ?_⟩
      exact ⟨fun σ H' => ∃ a8, σ = stL sa (some (.int (n : Nat))) (some (.int (way : Nat))) (some (.int (twice : Nat))) (some (.int c4)) (some (.int most)) (some (.ref q0)) (some (.ref p)) (some (.ref a8)) ∧ H' q0 = some (.tup (tupOf E0)) ∧ H' a8 = some (.tup (tupOf E0)), ⟨_, rfl, p, rfl, hq6, hp⟩, fun _ _ h => h⟩
    · exact ⟨_, rfl, _, _, _, _, rfl, .int _, kit_it, false, rfl, ifF Bool.false_ne_true ⟨a8, rfl, hq6, by rw [eV]; exact h8⟩⟩
  rintro σ H7 ⟨a8, rfl, hq7, h87⟩
  refine ⟨fun σ H' => σ = stL sa (some (.int (n : Nat))) (some (.int (way : Nat))) (some (.int (twice : Nat))) (some (.int c4)) (some (.int most)) (some (.ref q0)) (some a7) (some (.ref a8)) ∧ H' q0 = some (.tup (tupOf E0)), ?_, ?_⟩
  · exact ⟨_, rfl, _, _, _, _, rfl, .tup hq7, kit_tt, true, rfl, ifF (by decide) ⟨_, rfl, _, rfl, q0, a8, tupOf E0, rfl, rfl, SqT.of hq7, SqT.of h87, tup_plain _, _, rfl, ifF Bool.false_ne_true ⟨rfl, hq7⟩⟩⟩
  rintro σ H8 ⟨rfl, hq8⟩
  cases E0 with
  | value m =>
    refine ⟨_, rfl, _, _, rfl, .inr ⟨_, SqT.of hq8, rfl⟩, .inl ⟨rfl, _, rfl, ifF (by simp [tupOf]) ?_⟩⟩
    exact ⟨_, rfl, .inr (.inl ⟨q0, _, 1, _, rfl, rfl, SqT.of hq8, rfl, _, _, _, _, rfl, .int _, kit_ii, _, rfl, ifT rfl ⟨_, rfl, .inr (.inl ⟨q0, _, 1, _, rfl, rfl, SqT.of hq8, rfl, _, _, _, _, rfl, .int _, kit_ib, _, rfl, q _⟩)⟩⟩)⟩
  | dry | deep | st => exact ⟨_, rfl, _, _, rfl, .inr ⟨_, SqT.of hq8, rfl⟩, .inl ⟨rfl, _, rfl, ifT (by simp [tupOf]) (q _)⟩⟩
end
end RK
def PySem.W.Fast.tw14771526548546350298 : Unit := ()
def PySem.W.Fast.tw14072029448735991600 : Unit := ()
def PySem.W.Fast.tw18240148015812608383 : Unit := ()
def PySem.W.Fast.tw16112325932951993095 : Unit := ()
def PySem.W.Fast.tw4013766133114408847 : Unit := ()
def PySem.W.Fast.tw3818998837190066941 : Unit := ()
def PySem.W.Fast.tw17680078397672972327 : Unit := ()
def PySem.W.Fast.tw4042042869667884143 : Unit := ()
set_option maxHeartbeats 4000000
namespace RK
open PySem L2 BV
abbrev s_quotient_told : Stmt := BV.top 3
abbrev s_one_told : Stmt := BV.top 25
def spVoid : Sp := fun _ _ _ _ => False
theorem ok_voidF {P : Program} {w : World} {K : PySem.W.Frag} {mg : Str → Option Value} {base : Heap} {n1 n2 : Str} {st : Stmt} {f : Addr} {fd : FuncData} (F : Fun K n1 n2 st f fd) (ps : List Str) : FnOk P w K mg base CX0 1 f fd ps spVoid := ⟨fun _ _ _ _ h => h.elim, fun _ _ _ _ _ _ _ _ _ _ _ _ _ h => h.elim⟩
theorem all_mk {l : PySem.W.OpenLaw} {w : World} {K : PySem.W.Frag} {h : Heap} {mg : Str → Option Value} {fa : Addr} (X : K.In h) (G : h.Ns mainGlobals mg) (hfa : mg "law" = some (.ref fa))
    {f0 f1 f2 f3 f4 f5 f6 f7 f8 f9 f10 f11 f12 f13 f14 f15 f16 f17 f18 f19 f20 f21 f22 f23 f24 f25 f26 f27 f28 f29 f30 : Addr} {od0 an0 od1 an1 od2 an2 od3 an3 od4 an4 od5 an5 od6 an6 od7 an7 od8 an8 od9 an9 od10 an10 od11 an11 od12 an12 od13 an13 od14 an14 od15 an15 od16 an16 od17 an17 od18 an18 od19 an19 od20 an20 od21 an21 od22 an22 od23 an23 od24 an24 od25 an25 od26 an26 od27 an27 od28 an28 od29 an29 od30 an30 : Option Addr} {sl0 sl1 sl2 sl3 sl4 sl5 sl6 sl7 sl8 sl9 sl10 sl11 sl12 sl13 sl14 sl15 sl16 sl17 sl18 sl19 sl20 sl21 sl22 sl23 sl24 sl25 sl26 sl27 sl28 sl29 sl30 : Array (Option Value)} {oc0 kV0 dc0 pm0 cd0 ct0 oc1 kV1 dc1 pm1 cd1 ct1 oc2 kV2 dc2 pm2 cd2 ct2 oc3 kV3 dc3 pm3 cd3 ct3 oc4 kV4 dc4 pm4 cd4 ct4 oc5 kV5 dc5 pm5 cd5 ct5 oc6 kV6 dc6 pm6 cd6 ct6 oc7 kV7 dc7 pm7 cd7 ct7 oc8 kV8 dc8 pm8 cd8 ct8 oc9 kV9 dc9 pm9 cd9 ct9 oc10 kV10 dc10 pm10 cd10 ct10 oc11 kV11 dc11 pm11 cd11 ct11 oc12 kV12 dc12 pm12 cd12 ct12 oc13 kV13 dc13 pm13 cd13 ct13 oc14 kV14 dc14 pm14 cd14 ct14 oc15 kV15 dc15 pm15 cd15 ct15 oc16 kV16 dc16 pm16 cd16 ct16 oc17 kV17 dc17 pm17 cd17 ct17 oc18 kV18 dc18 pm18 cd18 ct18 oc19 kV19 dc19 pm19 cd19 ct19 oc20 kV20 dc20 pm20 cd20 ct20 oc21 kV21 dc21 pm21 cd21 ct21 oc22 kV22 dc22 pm22 cd22 ct22 oc23 kV23 dc23 pm23 cd23 ct23 oc24 kV24 dc24 pm24 cd24 ct24 oc25 kV25 dc25 pm25 cd25 ct25 oc26 kV26 dc26 pm26 cd26 ct26 oc27 kV27 dc27 pm27 cd27 ct27 oc28 kV28 dc28 pm28 cd28 ct28 oc29 kV29 dc29 pm29 cd29 ct29 oc30 kV30 dc30 pm30 cd30 ct30 : Value}
    {t_GREATEST t_DEEPEST t_PARTS_OF_STATE : Tok}
    {pf_PARTS_FROM : Addr} {es_PARTS_FROM : Array DictEntry} {nes_PARTS_FROM : Nat}
    (a0 : PySem.W.nsIn K mainGlobals "parts_of" = some (some (.ref f0))) (l0 : K.lookup f0 = some ⟨oc0, od0, .func (PySem.W.fnOf "parts_of" "parts_of" (defArgs s_parts_of) (defBody s_parts_of) (defScope s_parts_of) .none kV0 dc0 pm0 an0 cd0 ct0), sl0⟩) (c0 : PySem.W.codeIn K cd0 "parts_of" = true) (k0 : PySem.W.keepIn K (.ref f0) = true)
    (a1 : PySem.W.nsIn K mainGlobals "built_up" = some (some (.ref f1))) (l1 : K.lookup f1 = some ⟨oc1, od1, .func (PySem.W.fnOf "built_up" "built_up" (defArgs s_built_up) (defBody s_built_up) (defScope s_built_up) .none kV1 dc1 pm1 an1 cd1 ct1), sl1⟩) (c1 : PySem.W.codeIn K cd1 "built_up" = true) (k1 : PySem.W.keepIn K (.ref f1) = true)
    (a2 : PySem.W.nsIn K mainGlobals "quotient_told" = some (some (.ref f2))) (l2 : K.lookup f2 = some ⟨oc2, od2, .func (PySem.W.fnOf "quotient_told" "quotient_told" (defArgs s_quotient_told) (defBody s_quotient_told) (defScope s_quotient_told) .none kV2 dc2 pm2 an2 cd2 ct2), sl2⟩) (c2 : PySem.W.codeIn K cd2 "quotient_told" = true) (k2 : PySem.W.keepIn K (.ref f2) = true)
    (a3 : PySem.W.nsIn K mainGlobals "one_told" = some (some (.ref f3))) (l3 : K.lookup f3 = some ⟨oc3, od3, .func (PySem.W.fnOf "one_told" "one_told" (defArgs s_one_told) (defBody s_one_told) (defScope s_one_told) .none kV3 dc3 pm3 an3 cd3 ct3), sl3⟩) (c3 : PySem.W.codeIn K cd3 "one_told" = true) (k3 : PySem.W.keepIn K (.ref f3) = true)
    (a4 : PySem.W.nsIn K mainGlobals "outcome" = some (some (.ref f4))) (l4 : K.lookup f4 = some ⟨oc4, od4, .func (PySem.W.fnOf "outcome" "outcome" (defArgs s_outcome) (defBody s_outcome) (defScope s_outcome) .none kV4 dc4 pm4 an4 cd4 ct4), sl4⟩) (c4 : PySem.W.codeIn K cd4 "outcome" = true) (k4 : PySem.W.keepIn K (.ref f4) = true)
    (a5 : PySem.W.nsIn K mainGlobals "bounded" = some (some (.ref f5))) (l5 : K.lookup f5 = some ⟨oc5, od5, .func (PySem.W.fnOf "bounded" "bounded" (defArgs s_bounded) (defBody s_bounded) (defScope s_bounded) .none kV5 dc5 pm5 an5 cd5 ct5), sl5⟩) (c5 : PySem.W.codeIn K cd5 "bounded" = true) (k5 : PySem.W.keepIn K (.ref f5) = true)
    (a6 : PySem.W.nsIn K mainGlobals "two_told" = some (some (.ref f6))) (l6 : K.lookup f6 = some ⟨oc6, od6, .func (PySem.W.fnOf "two_told" "two_told" (defArgs s_two_told) (defBody s_two_told) (defScope s_two_told) .none kV6 dc6 pm6 an6 cd6 ct6), sl6⟩) (c6 : PySem.W.codeIn K cd6 "two_told" = true) (k6 : PySem.W.keepIn K (.ref f6) = true)
    (a7 : PySem.W.nsIn K mainGlobals "told_at_once" = some (some (.ref f7))) (l7 : K.lookup f7 = some ⟨oc7, od7, .func (PySem.W.fnOf "told_at_once" "told_at_once" (defArgs s_told_at_once) (defBody s_told_at_once) (defScope s_told_at_once) .none kV7 dc7 pm7 an7 cd7 ct7), sl7⟩) (c7 : PySem.W.codeIn K cd7 "told_at_once" = true) (k7 : PySem.W.keepIn K (.ref f7) = true)
    (a8 : PySem.W.nsIn K mainGlobals "into_body" = some (some (.ref f8))) (l8 : K.lookup f8 = some ⟨oc8, od8, .func (PySem.W.fnOf "into_body" "into_body" (defArgs s_into_body) (defBody s_into_body) (defScope s_into_body) .none kV8 dc8 pm8 an8 cd8 ct8), sl8⟩) (c8 : PySem.W.codeIn K cd8 "into_body" = true) (k8 : PySem.W.keepIn K (.ref f8) = true)
    (a9 : PySem.W.nsIn K mainGlobals "bound_to" = some (some (.ref f9))) (l9 : K.lookup f9 = some ⟨oc9, od9, .func (PySem.W.fnOf "bound_to" "bound_to" (defArgs s_bound_to) (defBody s_bound_to) (defScope s_bound_to) .none kV9 dc9 pm9 an9 cd9 ct9), sl9⟩) (c9 : PySem.W.codeIn K cd9 "bound_to" = true) (k9 : PySem.W.keepIn K (.ref f9) = true)
    (a10 : PySem.W.nsIn K mainGlobals "function_called" = some (some (.ref f10))) (l10 : K.lookup f10 = some ⟨oc10, od10, .func (PySem.W.fnOf "function_called" "function_called" (defArgs s_function_called) (defBody s_function_called) (defScope s_function_called) .none kV10 dc10 pm10 an10 cd10 ct10), sl10⟩) (c10 : PySem.W.codeIn K cd10 "function_called" = true) (k10 : PySem.W.keepIn K (.ref f10) = true)
    (a11 : PySem.W.nsIn K mainGlobals "into_function" = some (some (.ref f11))) (l11 : K.lookup f11 = some ⟨oc11, od11, .func (PySem.W.fnOf "into_function" "into_function" (defArgs s_into_function) (defBody s_into_function) (defScope s_into_function) .none kV11 dc11 pm11 an11 cd11 ct11), sl11⟩) (c11 : PySem.W.codeIn K cd11 "into_function" = true) (k11 : PySem.W.keepIn K (.ref f11) = true)
    (a12 : PySem.W.nsIn K mainGlobals "into_fn" = some (some (.ref f12))) (l12 : K.lookup f12 = some ⟨oc12, od12, .func (PySem.W.fnOf "into_fn" "into_fn" (defArgs s_into_fn) (defBody s_into_fn) (defScope s_into_fn) .none kV12 dc12 pm12 an12 cd12 ct12), sl12⟩) (c12 : PySem.W.codeIn K cd12 "into_fn" = true) (k12 : PySem.W.keepIn K (.ref f12) = true)
    (a13 : PySem.W.nsIn K mainGlobals "value_bound" = some (some (.ref f13))) (l13 : K.lookup f13 = some ⟨oc13, od13, .func (PySem.W.fnOf "value_bound" "value_bound" (defArgs s_value_bound) (defBody s_value_bound) (defScope s_value_bound) .none kV13 dc13 pm13 an13 cd13 ct13), sl13⟩) (c13 : PySem.W.codeIn K cd13 "value_bound" = true) (k13 : PySem.W.keepIn K (.ref f13) = true)
    (a14 : PySem.W.nsIn K mainGlobals "value_at_once" = some (some (.ref f14))) (l14 : K.lookup f14 = some ⟨oc14, od14, .func (PySem.W.fnOf "value_at_once" "value_at_once" (defArgs s_value_at_once) (defBody s_value_at_once) (defScope s_value_at_once) .none kV14 dc14 pm14 an14 cd14 ct14), sl14⟩) (c14 : PySem.W.codeIn K cd14 "value_at_once" = true) (k14 : PySem.W.keepIn K (.ref f14) = true)
    (a15 : PySem.W.nsIn K mainGlobals "waiting_of" = some (some (.ref f15))) (l15 : K.lookup f15 = some ⟨oc15, od15, .func (PySem.W.fnOf "waiting_of" "waiting_of" (defArgs s_waiting_of) (defBody s_waiting_of) (defScope s_waiting_of) .none kV15 dc15 pm15 an15 cd15 ct15), sl15⟩) (c15 : PySem.W.codeIn K cd15 "waiting_of" = true) (k15 : PySem.W.keepIn K (.ref f15) = true)
    (a16 : PySem.W.nsIn K mainGlobals "onward_from_term" = some (some (.ref f16))) (l16 : K.lookup f16 = some ⟨oc16, od16, .func (PySem.W.fnOf "onward_from_term" "onward_from_term" (defArgs s_onward_from_term) (defBody s_onward_from_term) (defScope s_onward_from_term) .none kV16 dc16 pm16 an16 cd16 ct16), sl16⟩) (c16 : PySem.W.codeIn K cd16 "onward_from_term" = true) (k16 : PySem.W.keepIn K (.ref f16) = true)
    (a17 : PySem.W.nsIn K mainGlobals "pushed" = some (some (.ref f17))) (l17 : K.lookup f17 = some ⟨oc17, od17, .func (PySem.W.fnOf "pushed" "pushed" (defArgs s_pushed) (defBody s_pushed) (defScope s_pushed) .none kV17 dc17 pm17 an17 cd17 ct17), sl17⟩) (c17 : PySem.W.codeIn K cd17 "pushed" = true) (k17 : PySem.W.keepIn K (.ref f17) = true)
    (a18 : PySem.W.nsIn K mainGlobals "onward_to_term" = some (some (.ref f18))) (l18 : K.lookup f18 = some ⟨oc18, od18, .func (PySem.W.fnOf "onward_to_term" "onward_to_term" (defArgs s_onward_to_term) (defBody s_onward_to_term) (defScope s_onward_to_term) .none kV18 dc18 pm18 an18 cd18 ct18), sl18⟩) (c18 : PySem.W.codeIn K cd18 "onward_to_term" = true) (k18 : PySem.W.keepIn K (.ref f18) = true)
    (a19 : PySem.W.nsIn K mainGlobals "is_list" = some (some (.ref f19))) (l19 : K.lookup f19 = some ⟨oc19, od19, .func (PySem.W.fnOf "is_list" "is_list" (defArgs s_is_list) (defBody s_is_list) (defScope s_is_list) .none kV19 dc19 pm19 an19 cd19 ct19), sl19⟩) (c19 : PySem.W.codeIn K cd19 "is_list" = true) (k19 : PySem.W.keepIn K (.ref f19) = true)
    (a20 : PySem.W.nsIn K mainGlobals "items_in" = some (some (.ref f20))) (l20 : K.lookup f20 = some ⟨oc20, od20, .func (PySem.W.fnOf "items_in" "items_in" (defArgs s_items_in) (defBody s_items_in) (defScope s_items_in) .none kV20 dc20 pm20 an20 cd20 ct20), sl20⟩) (c20 : PySem.W.codeIn K cd20 "items_in" = true) (k20 : PySem.W.keepIn K (.ref f20) = true)
    (a21 : PySem.W.nsIn K mainGlobals "with_items" = some (some (.ref f21))) (l21 : K.lookup f21 = some ⟨oc21, od21, .func (PySem.W.fnOf "with_items" "with_items" (defArgs s_with_items) (defBody s_with_items) (defScope s_with_items) .none kV21 dc21 pm21 an21 cd21 ct21), sl21⟩) (c21 : PySem.W.codeIn K cd21 "with_items" = true) (k21 : PySem.W.keepIn K (.ref f21) = true)
    (a22 : PySem.W.nsIn K mainGlobals "plain_value" = some (some (.ref f22))) (l22 : K.lookup f22 = some ⟨oc22, od22, .func (PySem.W.fnOf "plain_value" "plain_value" (defArgs s_plain_value) (defBody s_plain_value) (defScope s_plain_value) .none kV22 dc22 pm22 an22 cd22 ct22), sl22⟩) (c22 : PySem.W.codeIn K cd22 "plain_value" = true) (k22 : PySem.W.keepIn K (.ref f22) = true)
    (a23 : PySem.W.nsIn K mainGlobals "onward_from_value" = some (some (.ref f23))) (l23 : K.lookup f23 = some ⟨oc23, od23, .func (PySem.W.fnOf "onward_from_value" "onward_from_value" (defArgs s_onward_from_value) (defBody s_onward_from_value) (defScope s_onward_from_value) .none kV23 dc23 pm23 an23 cd23 ct23), sl23⟩) (c23 : PySem.W.codeIn K cd23 "onward_from_value" = true) (k23 : PySem.W.keepIn K (.ref f23) = true)
    (a24 : PySem.W.nsIn K mainGlobals "onward" = some (some (.ref f24))) (l24 : K.lookup f24 = some ⟨oc24, od24, .func (PySem.W.fnOf "onward" "onward" (defArgs s_onward) (defBody s_onward) (defScope s_onward) .none kV24 dc24 pm24 an24 cd24 ct24), sl24⟩) (c24 : PySem.W.codeIn K cd24 "onward" = true) (k24 : PySem.W.keepIn K (.ref f24) = true)
    (a25 : PySem.W.nsIn K mainGlobals "begun" = some (some (.ref f25))) (l25 : K.lookup f25 = some ⟨oc25, od25, .func (PySem.W.fnOf "begun" "begun" (defArgs s_begun) (defBody s_begun) (defScope s_begun) .none kV25 dc25 pm25 an25 cd25 ct25), sl25⟩) (c25 : PySem.W.codeIn K cd25 "begun" = true) (k25 : PySem.W.keepIn K (.ref f25) = true)
    (a26 : PySem.W.nsIn K mainGlobals "reckoned" = some (some (.ref f26))) (l26 : K.lookup f26 = some ⟨oc26, od26, .func (PySem.W.fnOf "reckoned" "reckoned" (defArgs s_reckoned) (defBody s_reckoned) (defScope s_reckoned) .none kV26 dc26 pm26 an26 cd26 ct26), sl26⟩) (c26 : PySem.W.codeIn K cd26 "reckoned" = true) (k26 : PySem.W.keepIn K (.ref f26) = true)
    (a27 : PySem.W.nsIn K mainGlobals "_law_cell_at" = some (some (.ref f27))) (l27 : K.lookup f27 = some ⟨oc27, od27, .func (PySem.W.fnOf "_law_cell_at" "_law_cell_at" (defArgs s_law_cell_at) (defBody s_law_cell_at) (defScope s_law_cell_at) .none kV27 dc27 pm27 an27 cd27 ct27), sl27⟩) (c27 : PySem.W.codeIn K cd27 "_law_cell_at" = true) (k27 : PySem.W.keepIn K (.ref f27) = true)
    (a28 : PySem.W.nsIn K mainGlobals "_law_program" = some (some (.ref f28))) (l28 : K.lookup f28 = some ⟨oc28, od28, .func (PySem.W.fnOf "_law_program" "_law_program" (defArgs s_law_program) (defBody s_law_program) (defScope s_law_program) .none kV28 dc28 pm28 an28 cd28 ct28), sl28⟩) (c28 : PySem.W.codeIn K cd28 "_law_program" = true) (k28 : PySem.W.keepIn K (.ref f28) = true)
    (a29 : PySem.W.nsIn K mainGlobals "_law_one" = some (some (.ref f29))) (l29 : K.lookup f29 = some ⟨oc29, od29, .func (PySem.W.fnOf "_law_one" "_law_one" (defArgs s_law_one) (defBody s_law_one) (defScope s_law_one) .none kV29 dc29 pm29 an29 cd29 ct29), sl29⟩) (c29 : PySem.W.codeIn K cd29 "_law_one" = true) (k29 : PySem.W.keepIn K (.ref f29) = true)
    (a30 : PySem.W.nsIn K mainGlobals "law" = some (some (.ref f30))) (l30 : K.lookup f30 = some ⟨oc30, od30, .func (PySem.W.fnOf "law" "law" (defArgs s_law) (defBody s_law) (defScope s_law) .none kV30 dc30 pm30 an30 cd30 ct30), sl30⟩) (c30 : PySem.W.codeIn K cd30 "law" = true) (k30 : PySem.W.keepIn K (.ref f30) = true)
    (e_GREATEST : PySem.W.nsIn K mainGlobals "GREATEST" = some (some (.int 10000000000000000000000000000000000000000 t_GREATEST)))
    (e_DEEPEST : PySem.W.nsIn K mainGlobals "DEEPEST" = some (some (.int 60 t_DEEPEST)))
    (e_PARTS_OF_STATE : PySem.W.nsIn K mainGlobals "PARTS_OF_STATE" = some (some (.int 4 t_PARTS_OF_STATE)))
    (aD_PARTS_FROM : PySem.W.nsIn K mainGlobals "PARTS_FROM" = some (some (.ref pf_PARTS_FROM))) (lD_PARTS_FROM : K.lookup pf_PARTS_FROM = some ⟨.type "dict", none, .dict es_PARTS_FROM nes_PARTS_FROM, #[]⟩) (kD_PARTS_FROM : PySem.W.KeysLit w.params es_PARTS_FROM.toList) (pD_PARTS_FROM : Paired (fun (p : Str × V) (e : DictEntry) => (∃ t, e.key = .str p.1 t) ∧ RelV p.2 e.val) PF es_PARTS_FROM.toList) (oD_PARTS_FROM : (pf_PARTS_FROM == sysModules) = false)
    (z_len : PySem.W.nsIn K mainGlobals "len" = some none)
    (z_list : PySem.W.nsIn K mainGlobals "list" = some none)
    (z_reversed : PySem.W.nsIn K mainGlobals "reversed" = some none)
    (z_range : PySem.W.nsIn K mainGlobals "range" = some none)
    (z_zip : PySem.W.nsIn K mainGlobals "zip" = some none)
    (z_isinstance : PySem.W.nsIn K mainGlobals "isinstance" = some none)
    (z_str : PySem.W.nsIn K mainGlobals "str" = some none)
    (z_tuple : PySem.W.nsIn K mainGlobals "tuple" = some none)
    (z_sum : PySem.W.nsIn K mainGlobals "sum" = some none)
    (z_max : PySem.W.nsIn K mainGlobals "max" = some none)
    (z_min : PySem.W.nsIn K mainGlobals "min" = some none)
    (z_int : PySem.W.nsIn K mainGlobals "int" = some none)
    (z_bool : PySem.W.nsIn K mainGlobals "bool" = some none)
    (z_enumerate : PySem.W.nsIn K mainGlobals "enumerate" = some none)
    (z_all : PySem.W.nsIn K mainGlobals "all" = some none)
    (z_abs : PySem.W.nsIn K mainGlobals "abs" = some none) :
    ∃ fd : FuncData, (∀ (s : Shared) (v : Value), BindsTo s fd ⟨[v], []⟩ [("_law_script", v)]) ∧ ∀ base : Heap, K.In base → base.Ns mainGlobals mg → FnOk l.prog w K mg base CX0 8 fa fd ["_law_script"] (spLaw K) := by
  have e := hfa.symm.trans (PySem.W.mg_of X G a30)
  cases e
  have B : BV.NoG mg := ⟨PySem.W.mg_none_of X G z_len, PySem.W.mg_none_of X G z_list, PySem.W.mg_none_of X G z_reversed, PySem.W.mg_none_of X G z_range, PySem.W.mg_none_of X G z_zip, PySem.W.mg_none_of X G z_isinstance, PySem.W.mg_none_of X G z_str, PySem.W.mg_none_of X G z_tuple, PySem.W.mg_none_of X G z_sum, PySem.W.mg_none_of X G z_max, PySem.W.mg_none_of X G z_min, PySem.W.mg_none_of X G z_int, PySem.W.mg_none_of X G z_bool, PySem.W.mg_none_of X G z_enumerate, PySem.W.mg_none_of X G z_all⟩
  have B2 : RK.NoG2 mg := ⟨PySem.W.mg_none_of X G z_abs⟩
  have m_GREATEST := PySem.W.mg_of X G e_GREATEST
  have m_DEEPEST := PySem.W.mg_of X G e_DEEPEST
  have m_PARTS_OF_STATE := PySem.W.mg_of X G e_PARTS_OF_STATE
  have TD_PARTS_FROM : TopD w K pf_PARTS_FROM PF := ⟨⟨es_PARTS_FROM, nes_PARTS_FROM, lD_PARTS_FROM, kD_PARTS_FROM, pD_PARTS_FROM⟩, oD_PARTS_FROM⟩
  have m_PARTS_FROM := PySem.W.mg_of X G aD_PARTS_FROM
  have F0 := fun_mk (st := s_parts_of) l0 c0 k0
  have b0 := F0.binds (ps := ["term"]) fun _ _ _ _ _ _ us hl => match us, hl with | [_], _ => rfl
  have m0 := PySem.W.mg_of X G a0
  have F1 := fun_mk (st := s_built_up) l1 c1 k1
  have b1 := F1.binds (ps := ["root", "parts_in", "made"]) fun _ _ _ _ _ _ us hl => match us, hl with | [_, _, _], _ => rfl
  have m1 := PySem.W.mg_of X G a1
  have F2 := fun_mk (st := s_quotient_told) l2 c2 k2
  have b2 := F2.binds (ps := ["a", "b"]) fun _ _ _ _ _ _ us hl => match us, hl with | [_, _], _ => rfl
  have m2 := PySem.W.mg_of X G a2
  have F3 := fun_mk (st := s_one_told) l3 c3 k3
  have b3 := F3.binds (ps := ["word", "value"]) fun _ _ _ _ _ _ us hl => match us, hl with | [_, _], _ => rfl
  have m3 := PySem.W.mg_of X G a3
  have F4 := fun_mk (st := s_outcome) l4 c4 k4
  have b4 := F4.binds (ps := ["sign", "a", "b"]) fun _ _ _ _ _ _ us hl => match us, hl with | [_, _, _], _ => rfl
  have m4 := PySem.W.mg_of X G a4
  have F5 := fun_mk (st := s_bounded) l5 c5 k5
  have b5 := F5.binds (ps := ["number"]) fun _ _ _ _ _ _ us hl => match us, hl with | [_], _ => rfl
  have m5 := PySem.W.mg_of X G a5
  have F6 := fun_mk (st := s_two_told) l6 c6 k6
  have b6 := F6.binds (ps := ["sign", "a", "b"]) fun _ _ _ _ _ _ us hl => match us, hl with | [_, _, _], _ => rfl
  have m6 := PySem.W.mg_of X G a6
  have F7 := fun_mk (st := s_told_at_once) l7 c7 k7
  have b7 := F7.binds (ps := ["top", "value"]) fun _ _ _ _ _ _ us hl => match us, hl with | [_, _], _ => rfl
  have m7 := PySem.W.mg_of X G a7
  have F8 := fun_mk (st := s_into_body) l8 c8 k8
  have b8 := F8.binds (ps := ["body", "bound", "rest", "most"]) fun _ _ _ _ _ _ us hl => match us, hl with | [_, _, _, _], _ => rfl
  have m8 := PySem.W.mg_of X G a8
  have F9 := fun_mk (st := s_bound_to) l9 c9 k9
  have b9 := F9.binds (ps := ["names", "values"]) fun _ _ _ _ _ _ us hl => match us, hl with | [_, _], _ => rfl
  have m9 := PySem.W.mg_of X G a9
  have F10 := fun_mk (st := s_function_called) l10 c10 k10
  have b10 := F10.binds (ps := ["program", "name"]) fun _ _ _ _ _ _ us hl => match us, hl with | [_, _], _ => rfl
  have m10 := PySem.W.mg_of X G a10
  have F11 := fun_mk (st := s_into_function) l11 c11 k11
  have b11 := F11.binds (ps := ["program", "name", "values", "rest", "most"]) fun _ _ _ _ _ _ us hl => match us, hl with | [_, _, _, _, _], _ => rfl
  have m11 := PySem.W.mg_of X G a11
  have F12 := fun_mk (st := s_into_fn) l12 c12 k12
  have b12 := F12.binds (ps := ["fn", "value", "rest", "most"]) fun _ _ _ _ _ _ us hl => match us, hl with | [_, _, _, _], _ => rfl
  have m12 := PySem.W.mg_of X G a12
  have F13 := fun_mk (st := s_value_bound) l13 c13 k13
  have b13 := F13.binds (ps := ["name", "bound"]) fun _ _ _ _ _ _ us hl => match us, hl with | [_, _], _ => rfl
  have m13 := PySem.W.mg_of X G a13
  have F14 := fun_mk (st := s_value_at_once) l14 c14 k14
  have b14 := F14.binds (ps := ["term", "bound"]) fun _ _ _ _ _ _ us hl => match us, hl with | [_, _], _ => rfl
  have m14 := PySem.W.mg_of X G a14
  have F15 := fun_mk (st := s_waiting_of) l15 c15 k15
  have b15 := F15.binds (ps := ["term", "bound"]) fun _ _ _ _ _ _ us hl => match us, hl with | [_, _], _ => rfl
  have m15 := PySem.W.mg_of X G a15
  have F16 := fun_mk (st := s_onward_from_term) l16 c16 k16
  have b16 := F16.binds (ps := ["program", "state", "most"]) fun _ _ _ _ _ _ us hl => match us, hl with | [_, _, _], _ => rfl
  have m16 := PySem.W.mg_of X G a16
  have F17 := fun_mk (st := s_pushed) l17 c17 k17
  have b17 := F17.binds (ps := ["focus", "waits", "rest"]) fun _ _ _ _ _ _ us hl => match us, hl with | [_, _, _], _ => rfl
  have m17 := PySem.W.mg_of X G a17
  have F18 := fun_mk (st := s_onward_to_term) l18 c18 k18
  have b18 := F18.binds (ps := ["top", "value", "rest"]) fun _ _ _ _ _ _ us hl => match us, hl with | [_, _, _], _ => rfl
  have m18 := PySem.W.mg_of X G a18
  have F19 := fun_mk (st := s_is_list) l19 c19 k19
  have b19 := F19.binds (ps := ["value"]) fun _ _ _ _ _ _ us hl => match us, hl with | [_], _ => rfl
  have m19 := PySem.W.mg_of X G a19
  have F20 := fun_mk (st := s_items_in) l20 c20 k20
  have b20 := F20.binds (ps := ["value"]) fun _ _ _ _ _ _ us hl => match us, hl with | [_], _ => rfl
  have m20 := PySem.W.mg_of X G a20
  have F21 := fun_mk (st := s_with_items) l21 c21 k21
  have b21 := F21.binds (ps := ["value", "items"]) fun _ _ _ _ _ _ us hl => match us, hl with | [_, _], _ => rfl
  have m21 := PySem.W.mg_of X G a21
  have F22 := fun_mk (st := s_plain_value) l22 c22 k22
  have b22 := F22.binds (ps := ["value"]) fun _ _ _ _ _ _ us hl => match us, hl with | [_], _ => rfl
  have m22 := PySem.W.mg_of X G a22
  have F23 := fun_mk (st := s_onward_from_value) l23 c23 k23
  have b23 := F23.binds (ps := ["program", "state", "most"]) fun _ _ _ _ _ _ us hl => match us, hl with | [_, _, _], _ => rfl
  have m23 := PySem.W.mg_of X G a23
  have F24 := fun_mk (st := s_onward) l24 c24 k24
  have b24 := F24.binds (ps := ["program", "state", "most"]) fun _ _ _ _ _ _ us hl => match us, hl with | [_, _, _], _ => rfl
  have m24 := PySem.W.mg_of X G a24
  have F25 := fun_mk (st := s_begun) l25 c25 k25
  have b25 := F25.binds (ps := ["program", "numbers"]) fun _ _ _ _ _ _ us hl => match us, hl with | [_, _], _ => rfl
  have m25 := PySem.W.mg_of X G a25
  have F26 := fun_mk (st := s_reckoned) l26 c26 k26
  have b26 := F26.binds (ps := ["program", "numbers", "most"]) fun _ _ _ _ _ _ us hl => match us, hl with | [_, _, _], _ => rfl
  have m26 := PySem.W.mg_of X G a26
  have F27 := fun_mk (st := s_law_cell_at) l27 c27 k27
  have b27 := F27.binds (ps := ["_law_script", "_law_k"]) fun _ _ _ _ _ _ us hl => match us, hl with | [_, _], _ => rfl
  have m27 := PySem.W.mg_of X G a27
  have F28 := fun_mk (st := s_law_program) l28 c28 k28
  have b28 := F28.binds (ps := ["_law_way", "_law_twice"]) fun _ _ _ _ _ _ us hl => match us, hl with | [_, _], _ => rfl
  have m28 := PySem.W.mg_of X G a28
  have F29 := fun_mk (st := s_law_one) l29 c29 k29
  have b29 := F29.binds (ps := ["_law_number", "_law_way", "_law_calls", "_law_most"]) fun _ _ _ _ _ _ us hl => match us, hl with | [_, _, _, _], _ => rfl
  have m29 := PySem.W.mg_of X G a29
  have F30 := fun_mk (st := s_law) l30 c30 k30
  have b30 := F30.binds (ps := ["_law_script"]) fun _ _ _ _ _ _ us hl => match us, hl with | [_], _ => rfl
  have m30 := PySem.W.mg_of X G a30
  refine ⟨PySem.W.fnOf "law" "law" (defArgs s_law) (defBody s_law) (defScope s_law) .none kV30 dc30 pm30 an30 cd30 ct30, fun s v => .of_eq rfl, fun base _ _ => ?_⟩
  have G0 := ok_parts_of (P := l.prog) (w := w) (mg := mg) (base := base) F0 B TD_PARTS_FROM m_PARTS_FROM
  have G1 := BV.ok_built_up (P := l.prog) (w := w) (mg := mg) (base := base) F1 B
  have G2 := ok_voidF (P := l.prog) (w := w) (mg := mg) (base := base) F2 ["a", "b"]
  have G3 := ok_voidF (P := l.prog) (w := w) (mg := mg) (base := base) F3 ["word", "value"]
  have G4 := ok_outcome (P := l.prog) (w := w) (mg := mg) (base := base) F4 
  have G5 := ok_bounded (P := l.prog) (w := w) (mg := mg) (base := base) F5 B2 m_GREATEST
  have G6 := ok_two_told (P := l.prog) (w := w) (mg := mg) (base := base) F6 G4 b4 k4 m4 G5 b5 k5 m5 G2 b2 k2 m2
  have G7 := ok_told_at_once (P := l.prog) (w := w) (mg := mg) (base := base) F7 G6 b6 k6 m6 G3 b3 k3 m3
  have G8 := ok_into_body (m_DEEPEST := m_DEEPEST) (P := l.prog) (w := w) (mg := mg) (base := base) F8 
  have G9 := ok_bound_to (P := l.prog) (w := w) (mg := mg) (base := base) F9 B
  have G10 := ok_function_called (P := l.prog) (w := w) (mg := mg) (base := base) F10 
  have G11 := ok_into_function (P := l.prog) (w := w) (mg := mg) (base := base) F11 G10 b10 k10 m10 G9 b9 k9 m9 G8 b8 k8 m8
  have G12 := ok_into_fn (P := l.prog) (w := w) (mg := mg) (base := base) F12 G8 b8 k8 m8
  have G13 := ok_value_bound (P := l.prog) (w := w) (mg := mg) (base := base) F13 
  have G14 := ok_value_at_once (P := l.prog) (w := w) (mg := mg) (base := base) F14 G13 b13 k13 m13
  have G15 := ok_waiting_of (P := l.prog) (w := w) (mg := mg) (base := base) F15 
  have G16 := ok_onward_from_term (P := l.prog) (w := w) (mg := mg) (base := base) F16 B G14 b14 k14 m14 G0 b0 k0 m0 G15 b15 k15 m15 G11 b11 k11 m11
  have G17 := ok_pushed (P := l.prog) (w := w) (mg := mg) (base := base) F17 
  have G18 := ok_onward_to_term (P := l.prog) (w := w) (mg := mg) (base := base) F18 G17 b17 k17 m17
  have G19 := ok_is_list (P := l.prog) (w := w) (mg := mg) (base := base) F19 B
  have G20 := ok_items_in (P := l.prog) (w := w) (mg := mg) (base := base) F20 B G19 b19 k19 m19
  have G21 := ok_with_items (P := l.prog) (w := w) (mg := mg) (base := base) F21 G19 b19 k19 m19
  have G22 := ok_plain_value (P := l.prog) (w := w) (mg := mg) (base := base) F22 G1 b1 k1 m1 G20 b20 k20 m20 G21 b21 k21 m21
  have G23 := ok_onward_from_value (P := l.prog) (w := w) (mg := mg) (base := base) F23 B G22 b22 k22 m22 G7 b7 k7 m7 G12 b12 k12 m12 G11 b11 k11 m11 G18 b18 k18 m18
  have G24 := ok_onward (P := l.prog) (w := w) (mg := mg) (base := base) F24 G16 b16 k16 m16 G23 b23 k23 m23
  have G25 := ok_begun (P := l.prog) (w := w) (mg := mg) (base := base) F25 G10 b10 k10 m10 G9 b9 k9 m9
  have G26 := ok_reckoned (m_PARTS_OF_STATE := m_PARTS_OF_STATE) (P := l.prog) (w := w) (mg := mg) (base := base) F26 B G25 b25 k25 m25 G24 b24 k24 m24
  have G27 := ok_law_cell_at (P := l.prog) (w := w) (mg := mg) (base := base) F27 B
  have G28 := ok_law_program (P := l.prog) (w := w) (mg := mg) (base := base) F28 
  have G29 := ok_law_one (P := l.prog) (w := w) (mg := mg) (base := base) F29 B
  exact ok_law F30 B G27 b27 k27 m27 G28 b28 k28 m28 G29 b29 k29 m29 G26 b26 k26 m26
theorem walk {l : PySem.W.OpenLaw} {q : Program} {loose : List Str} {XP : (Str → Option Value) → Heap → Prop} {YP : World → Heap → Prop} {d : DefRec} {K : Params → PySem.W.Frag} (hn : l.most = some 63) (hdf : d.params.defaults = [])
    (hY : ∀ (w : World) (h : Heap), YP w h → (K w.params).In h)
    (F : ∀ (w : World) (mg : Str → Option Value) (fa : Addr) (h : Heap), (K w.params).In h → h.Ns mainGlobals mg → mg d.name = some (.ref fa) →
      ∃ fd : FuncData, (∀ (s : Shared) (u : Value), BindsTo s fd ⟨[u], []⟩ [("_law_script", u)]) ∧ ∀ base : Heap, (K w.params).In base → base.Ns mainGlobals mg → FnOk l.prog w (K w.params) mg base CX0 8 fa fd ["_law_script"] (spLaw (K w.params))) :
    PySem.W.WalkO q loose XP YP l.row.toRowW d [] (fun f vs => PySem.call f vs) :=
  L2.walk_of (n := 63) (k := 8) (x := "_law_script") (CX := fun _ => CX0) (sp := fun w => spLaw (K w.params)) hn (by decide) hdf ⟨rfl, by decide, by decide⟩ hY F (fun _ _ a ns hl _ hS => ⟨a, ns, rfl, hS, hl, fun _ => rfl⟩) fun _ _ _ _ _ z => z
end RK
open PySem PySem.W PyProof.Rows
set_option maxRecDepth 100000 in
set_option maxHeartbeats 0 in
theorem PySem.Challenge.cw_speakmill_k43_calls_dry_and_deep_holds : PySem.Challenge.rw_speakmill_k43_calls_dry_and_deep.Holds := by
  w_on; o_law; k_head; (case hw => w_witness2)
  k_fill
  refine RK.walk (l := PySem.Challenge.rw_speakmill_k43_calls_dry_and_deep) rfl rfl (fun w h Y => PySem.W.kIn_of Y) ?F
  case F =>
    intro w mg fa h KX G hmg
    refine' RK.all_mk KX G hmg ?a0 ?l0 ?c0 ?k0 ?a1 ?l1 ?c1 ?k1 ?a2 ?l2 ?c2 ?k2 ?a3 ?l3 ?c3 ?k3 ?a4 ?l4 ?c4 ?k4 ?a5 ?l5 ?c5 ?k5 ?a6 ?l6 ?c6 ?k6 ?a7 ?l7 ?c7 ?k7 ?a8 ?l8 ?c8 ?k8 ?a9 ?l9 ?c9 ?k9 ?a10 ?l10 ?c10 ?k10 ?a11 ?l11 ?c11 ?k11 ?a12 ?l12 ?c12 ?k12 ?a13 ?l13 ?c13 ?k13 ?a14 ?l14 ?c14 ?k14 ?a15 ?l15 ?c15 ?k15 ?a16 ?l16 ?c16 ?k16 ?a17 ?l17 ?c17 ?k17 ?a18 ?l18 ?c18 ?k18 ?a19 ?l19 ?c19 ?k19 ?a20 ?l20 ?c20 ?k20 ?a21 ?l21 ?c21 ?k21 ?a22 ?l22 ?c22 ?k22 ?a23 ?l23 ?c23 ?k23 ?a24 ?l24 ?c24 ?k24 ?a25 ?l25 ?c25 ?k25 ?a26 ?l26 ?c26 ?k26 ?a27 ?l27 ?c27 ?k27 ?a28 ?l28 ?c28 ?k28 ?a29 ?l29 ?c29 ?k29 ?a30 ?l30 ?c30 ?k30 ?e_GREATEST ?e_DEEPEST ?e_PARTS_OF_STATE ?aD_PARTS_FROM ?lD_PARTS_FROM ?kD_PARTS_FROM ?pD_PARTS_FROM ?oD_PARTS_FROM ?z_len ?z_list ?z_reversed ?z_range ?z_zip ?z_isinstance ?z_str ?z_tuple ?z_sum ?z_max ?z_min ?z_int ?z_bool ?z_enumerate ?z_all ?z_abs
    (case a0 => k_is)
    (case l0 => k_is)
    (case c0 => k_is)
    (case k0 => k_is)
    (case a1 => k_is)
    (case l1 => k_is)
    (case c1 => k_is)
    (case k1 => k_is)
    (case a2 => k_is)
    (case l2 => k_is)
    (case c2 => k_is)
    (case k2 => k_is)
    (case a3 => k_is)
    (case l3 => k_is)
    (case c3 => k_is)
    (case k3 => k_is)
    (case a4 => k_is)
    (case l4 => k_is)
    (case c4 => k_is)
    (case k4 => k_is)
    (case a5 => k_is)
    (case l5 => k_is)
    (case c5 => k_is)
    (case k5 => k_is)
    (case a6 => k_is)
    (case l6 => k_is)
    (case c6 => k_is)
    (case k6 => k_is)
    (case a7 => k_is)
    (case l7 => k_is)
    (case c7 => k_is)
    (case k7 => k_is)
    (case a8 => k_is)
    (case l8 => k_is)
    (case c8 => k_is)
    (case k8 => k_is)
    (case a9 => k_is)
    (case l9 => k_is)
    (case c9 => k_is)
    (case k9 => k_is)
    (case a10 => k_is)
    (case l10 => k_is)
    (case c10 => k_is)
    (case k10 => k_is)
    (case a11 => k_is)
    (case l11 => k_is)
    (case c11 => k_is)
    (case k11 => k_is)
    (case a12 => k_is)
    (case l12 => k_is)
    (case c12 => k_is)
    (case k12 => k_is)
    (case a13 => k_is)
    (case l13 => k_is)
    (case c13 => k_is)
    (case k13 => k_is)
    (case a14 => k_is)
    (case l14 => k_is)
    (case c14 => k_is)
    (case k14 => k_is)
    (case a15 => k_is)
    (case l15 => k_is)
    (case c15 => k_is)
    (case k15 => k_is)
    (case a16 => k_is)
    (case l16 => k_is)
    (case c16 => k_is)
    (case k16 => k_is)
    (case a17 => k_is)
    (case l17 => k_is)
    (case c17 => k_is)
    (case k17 => k_is)
    (case a18 => k_is)
    (case l18 => k_is)
    (case c18 => k_is)
    (case k18 => k_is)
    (case a19 => k_is)
    (case l19 => k_is)
    (case c19 => k_is)
    (case k19 => k_is)
    (case a20 => k_is)
    (case l20 => k_is)
    (case c20 => k_is)
    (case k20 => k_is)
    (case a21 => k_is)
    (case l21 => k_is)
    (case c21 => k_is)
    (case k21 => k_is)
    (case a22 => k_is)
    (case l22 => k_is)
    (case c22 => k_is)
    (case k22 => k_is)
    (case a23 => k_is)
    (case l23 => k_is)
    (case c23 => k_is)
    (case k23 => k_is)
    (case a24 => k_is)
    (case l24 => k_is)
    (case c24 => k_is)
    (case k24 => k_is)
    (case a25 => k_is)
    (case l25 => k_is)
    (case c25 => k_is)
    (case k25 => k_is)
    (case a26 => k_is)
    (case l26 => k_is)
    (case c26 => k_is)
    (case k26 => k_is)
    (case a27 => k_is)
    (case l27 => k_is)
    (case c27 => k_is)
    (case k27 => k_is)
    (case a28 => k_is)
    (case l28 => k_is)
    (case c28 => k_is)
    (case k28 => k_is)
    (case a29 => k_is)
    (case l29 => k_is)
    (case c29 => k_is)
    (case k29 => k_is)
    (case a30 => k_is)
    (case l30 => k_is)
    (case c30 => k_is)
    (case k30 => k_is)
    (case e_GREATEST => k_is)
    (case e_DEEPEST => k_is)
    (case e_PARTS_OF_STATE => k_is)
    (case aD_PARTS_FROM => k_is)
    (case lD_PARTS_FROM => k_is)
    (case kD_PARTS_FROM => k_keys)
    (case pD_PARTS_FROM => repeat (first | exact .nil | refine .cons ⟨⟨_, rfl⟩, ⟨_, rfl⟩⟩ ?_))
    (case oD_PARTS_FROM => decide)
    (case z_len => k_is)
    (case z_list => k_is)
    (case z_reversed => k_is)
    (case z_range => k_is)
    (case z_zip => k_is)
    (case z_isinstance => k_is)
    (case z_str => k_is)
    (case z_tuple => k_is)
    (case z_sum => k_is)
    (case z_max => k_is)
    (case z_min => k_is)
    (case z_int => k_is)
    (case z_bool => k_is)
    (case z_enumerate => k_is)
    (case z_all => k_is)
    (case z_abs => k_is)
