import PyProof.Rows.All
import Wide.All
import OpenK.AllK
import Wide.FinOn
import Lean
import PyProof.EqAt
import PyProof.EqKinds
import PyProof.TupleCall
import PySem.Challenge.RW_speakmill_k12_strengths
set_option Elab.async false
set_option linter.all false
set_option maxRecDepth 100000
namespace L2
open PySem PySem.Spec PyProof.Rows
abbrev Key := Sum Int Str
def keyIs : Key → Value → Bool
  | .inl k, v => Value.isInt k v
  | .inr x, v => Value.isStrOf x v
def keyH (w : World) : Key → Int
  | .inl k => hashInt k
  | .inr x => hashStr w x
theorem keyIs_shape : ∀ {k : Key} {v : Value}, keyIs k v = true → (∃ i t, k = Sum.inl i ∧ v = Value.int i t) ∨ (∃ x t, k = Sum.inr x ∧ v = Value.str x t)
  | .inl i, v, h => by
    obtain ⟨t, e⟩ := Value.isInt_shape (k := i) (v := v) h
    exact .inl ⟨i, t, rfl, e⟩
  | .inr x, v, h => by
    obtain ⟨t, e⟩ := Value.isStrOf_shape (x := x) (v := v) h
    exact .inr ⟨x, t, rfl, e⟩
theorem key_ll (a b : Int) : decide ((Sum.inl a : Key) = Sum.inl b) = (a == b) := by
  by_cases e : a = b
  · subst e; simp
  · have h : ¬ (Sum.inl a : Key) = Sum.inl b := fun q => e (Sum.inl.inj q)
    rw [decide_eq_false h]
    exact (beq_eq_false_iff_ne.mpr e).symm
theorem key_rr (a b : Str) : decide ((Sum.inr a : Key) = Sum.inr b) = decide (a = b) := by
  by_cases e : a = b
  · subst e; simp
  · have h : ¬ (Sum.inr a : Key) = Sum.inr b := fun q => e (Sum.inr.inj q)
    rw [decide_eq_false h, decide_eq_false e]
theorem key_lr (a : Int) (b : Str) : decide ((Sum.inl a : Key) = Sum.inr b) = false := decide_eq_false (fun q => nomatch q)
theorem key_rl (a : Str) (b : Int) : decide ((Sum.inr a : Key) = Sum.inl b) = false := decide_eq_false (fun q => nomatch q)
def mixKind (prog : Program) (w : World) : PySem.KeyKind prog w Key where
  is := keyIs
  hash := keyH w
  inj := fun v a b ha hb => by
    rcases keyIs_shape ha with ⟨i, t, rfl, rfl⟩ | ⟨x, t, rfl, rfl⟩
    · rcases keyIs_shape hb with ⟨j, u, rfl, e⟩ | ⟨y, u, rfl, e⟩
      · injection e with e1 _; rw [e1]
      · exact nomatch e
    · rcases keyIs_shape hb with ⟨j, u, rfl, e⟩ | ⟨y, u, rfl, e⟩
      · exact nomatch e
      · injection e with e1 _; rw [e1]
  byValue := fun k v h => by
    rcases keyIs_shape h with ⟨i, t, rfl, rfl⟩ | ⟨x, t, rfl, rfl⟩ <;> rfl
  pyHash := fun hv h => by
    rcases keyIs_shape hv with ⟨i, t, rfl, rfl⟩ | ⟨x, t, rfl, rfl⟩
    · exact wpAny_pyHash_int h
    · exact wpAny_pyHash_str h
  eqBool := fun hu hv h => by
    rcases keyIs_shape hu with ⟨i, t, rfl, rfl⟩ | ⟨x, t, rfl, rfl⟩
    · rcases keyIs_shape hv with ⟨j, u, rfl, rfl⟩ | ⟨y, u, rfl, rfl⟩
      · rw [key_ll] at h; exact wpAny_eqBool_int h
      · rw [key_lr] at h; exact SeqAt.EqAt.int_str i t y u _ _ _ _ h
    · rcases keyIs_shape hv with ⟨j, u, rfl, rfl⟩ | ⟨y, u, rfl, rfl⟩
      · rw [key_rl] at h; exact SeqAt.EqAt.str_int x t j u _ _ _ _ h
      · rw [key_rr] at h; exact wpAny_eqBool_str h
  «strs» := fun k x t v h => by
    rcases keyIs_shape h with ⟨i, u, rfl, e⟩ | ⟨y, u, rfl, e⟩
    · exact nomatch e
    · injection e with e1 _
      subst e1
      cases v <;> rfl
end L2
namespace L2
open PySem PySem.Spec PyProof.Rows
inductive V where
  | non | bl (b : Bool) | int (i : Int) | str (x : Str) | byt (b : Array UInt8) | flt (b : UInt64) | ref (a : Addr) | ty (n : String)
  deriving DecidableEq
def RelV : V → Value → Prop
  | .non, u => u = Value.none
  | .bl b, u => u = Value.bool b
  | .int i, u => ∃ t, u = Value.int i t
  | .str x, u => ∃ t, u = Value.str x t
  | .byt b, u => ∃ t, u = Value.bytes b t
  | .flt b, u => ∃ t, u = Value.float b t
  | .ref a, u => u = Value.ref a
  | .ty n, u => u = Value.type n
abbrev Vals : List V → List Value → Prop := Paired RelV
theorem Vals.length {xs : List V} {us : List Value} (r : Vals xs us) : xs.length = us.length := Paired.length r
theorem Vals.get : ∀ {xs : List V} {us : List Value} {i : Nat} {x : V}, Vals xs us → xs[i]? = some x → ∃ u, us[i]? = some u ∧ RelV x u
  | _, _, _, _, .nil, e => by simp at e
  | _, _, 0, _, .cons r _, e => by simp at e; subst e; exact ⟨_, rfl, r⟩
  | _, _, i + 1, x, .cons _ t, e => by
    obtain ⟨u, h1, h2⟩ := Vals.get (i := i) (x := x) t (by simpa using e)
    exact ⟨u, by simpa using h1, h2⟩
theorem Vals.set {x : V} {u : Value} (r : RelV x u) : ∀ {xs : List V} {us : List Value} (i : Nat), Vals xs us → Vals (xs.set i x) (us.set i u)
  | _, _, _, .nil => .nil
  | _, _, 0, .cons _ t => .cons r t
  | _, _, i + 1, .cons q t => .cons q (Vals.set r i t)
theorem Vals.append : ∀ {xs ys : List V} {us ws : List Value}, Vals xs us → Vals ys ws → Vals (xs ++ ys) (us ++ ws)
  | _, _, _, _, .nil, s => s
  | _, _, _, _, .cons r t, s => .cons r (Vals.append t s)
theorem Vals.take : ∀ {xs : List V} {us : List Value} (n : Nat), Vals xs us → Vals (xs.take n) (us.take n)
  | _, _, 0, _ => .nil
  | _, _, _ + 1, .nil => .nil
  | _, _, n + 1, .cons r t => .cons r (Vals.take n t)
theorem Vals.drop : ∀ {xs : List V} {us : List Value} (n : Nat), Vals xs us → Vals (xs.drop n) (us.drop n)
  | _, _, 0, r => r
  | _, _, _ + 1, .nil => .nil
  | _, _, n + 1, .cons _ t => Vals.drop n t
def RelO : Option V → Option Value → Prop
  | some v, some u => RelV v u
  | none, none => True
  | _, _ => False
def KV {κ : Type} : List (κ × V) → List (κ × Value) → Prop := Paired fun (p : κ × V) (q : κ × Value) => p.1 = q.1 ∧ RelV p.2 q.2
def kV : Key → V
  | .inl i => .int i
  | .inr x => .str x
inductive HO where
  | lst (xs : List V)
  | tup (xs : List V)
  | dK (kvs : List (Key × V)) | dT (kvs : List (List Key × V))
  | set (S : Int → Bool) (n : Nat)
  | ins (C dx : Addr) (fs : List (Str × V))
  | own (x : Addr)
  | xd (fs : List (Str × V))
  | met (f x : Addr)
  | rng (lo hi : Int)
  | frz (o : Obj) (u : HO)
  | tbl (ps : Array Value)
  | ext (φ : Heap → Prop)
abbrev Hp := Addr → Option HO
def upd (H : Hp) (a : Addr) (o : HO) : Hp := fun b => if b = a then some o else H b
theorem upd_same {H : Hp} {a : Addr} {o : HO} : upd H a o a = some o := by unfold upd; rw [if_pos rfl]
theorem upd_ne {H : Hp} {a b : Addr} {o : HO} (h : b ≠ a) : upd H a o b = H b := by unfold upd; rw [if_neg h]
theorem upd_upd {H : Hp} {a : Addr} {o u : HO} : upd (upd H a o) a u = upd H a u := by
  funext b; unfold upd; split <;> rfl
theorem ne_of {H : Hp} {a b : Addr} {o u : HO} (h : H a = some o) (h' : H b = some u) (d : o ≠ u) : a ≠ b := by
  intro e; subst e; rw [h] at h'; exact d (Option.some.inj h')
theorem ne_of_none {H : Hp} {a b : Addr} {o : HO} (h : H a = some o) (h' : H b = none) : a ≠ b := by
  intro e; subst e; rw [h] at h'; cases h'
section
variable (P : Program) (w : World)
def ObjOk (H : Hp) (h : Heap) (a : Addr) : HO → Prop
  | .lst xs => xs.length ≤ sizeLine ∧ ∃ (its : List Value) (n : Nat), Vals xs its ∧ h.get? a = some { cls := .type "list", data := .seq its.toArray n }
  | .tup xs => xs.length ≤ sizeLine ∧ ∃ its : List Value, Vals xs its ∧ IsTup h a its.toArray
  | .dK kvs => kvs.length ≤ sizeLine ∧ (a == sysModules) = false ∧ ∃ vs, KV kvs vs ∧ h.DictOf (mixKind P w) a vs
  | .dT kvs => kvs.length ≤ sizeLine ∧ (a == sysModules) = false ∧ ∃ xs : List (List Key × Addr × Value),
      Paired (fun (p : List Key × V) (q : List Key × Addr × Value) => p.1 = q.1 ∧ H q.2.1 = some (.tup (p.1.map kV)) ∧ RelV p.2 q.2.2) kvs xs ∧
      ∃ o es ep, h.get? a = some o ∧ o.ExactDict ∧ o.data = .dict es ep ∧ es.toList = xs.map (entryOfKey (tupleKind (mixKind P w))) ∧ (xs.map (·.1)).Nodup
  | .set S n => h.SetOf (intKind P w) a S n
  | .ins C dx fs => H dx = some (.own a) ∧ fs.length ≤ 1000 ∧ dx ≠ a ∧ h.get? a = some (PySem.W.instObj C dx) ∧
      ∃ mA, h.Ns1 dx mA ∧ (∀ f, RelO (fs.lookup f) (mA f)) ∧ PySem.Within mA (fs.map (·.1))
  | .own _ => ∃ o, h.get? a = some o
  | .xd fs => ∃ mA, h.Ns1 a mA ∧ ∀ f, RelO (fs.lookup f) (mA f)
  | .rng lo hi => ∃ t u v, h.get? a = some { cls := .type "range", data := .fields #[.int lo t, .int hi u, .int 1 v] }
  | .frz o u => h.get? a = some o ∧ ObjOk H h a u
  | .tbl ps => h.get? a = some { cls := .none, data := .fields ps }
  | .met f x => h.get? a = some (PySem.W.methodObj (.ref f) (.ref x))
  | .ext φ => φ h ∧ (∃ o, h.get? a = some o) ∧ ∀ h1 h2 : Heap, φ h1 → (∀ o, h1.get? a = some o → h2.get? a = some o) → φ h2
def HOk (H : Hp) (h : Heap) : Prop := ∀ a o, H a = some o → ObjOk P w H h a o
end
section
variable {P : Program} {w : World} {H H' : Hp} {h h' : Heap} {a : Addr} {o : HO}
theorem ObjOk.lt (x : ObjOk P w H h a o) : a < h.objs.size := by
  cases o with
  | lst xs => obtain ⟨_, _, _, _, e⟩ := x; exact Heap.lt_size e
  | tup xs => obtain ⟨_, _, _, p⟩ := x; exact p.lt
  | dK kvs => obtain ⟨_, _, _, _, o, _, _, e, _⟩ := x; exact Heap.lt_size e
  | dT kvs => obtain ⟨_, _, _, _, o, _, _, e, _⟩ := x; exact Heap.lt_size e
  | set S n => obtain ⟨o, _, _, _, e, _⟩ := x; exact Heap.lt_size e
  | ins C dx fs => obtain ⟨_, _, _, e, _⟩ := x; exact Heap.lt_size e
  | own y => obtain ⟨_, e⟩ := x; exact Heap.lt_size e
  | xd fs => obtain ⟨_, ⟨_, _, _, e, _⟩, _⟩ := x; exact Heap.lt_size e
  | rng lo hi => obtain ⟨_, _, _, e⟩ := x; exact Heap.lt_size e
  | frz ob u => obtain ⟨e, _⟩ := x; exact Heap.lt_size e
  | tbl ps => exact Heap.lt_size (show h.get? a = some _ from x)
  | met f y => exact Heap.lt_size (show h.get? a = some _ from x)
  | ext φ => obtain ⟨_, ⟨_, e⟩, _⟩ := x; exact Heap.lt_size e
theorem Paired.mapP {α β : Type} {F G : α → β → Prop} : ∀ {l₁ : List α} {l₂ : List β}, Paired F l₁ l₂ → (∀ a b, F a b → G a b) → Paired G l₁ l₂
  | _, _, .nil, _ => .nil
  | _, _, .cons r t, f => .cons (f _ _ r) (Paired.mapP t f)
theorem ObjOk.stay (x : ObjOk P w H h a o) (k : ∀ b u, (b = a ∨ H b = some (.own a)) → h.get? b = some u → h'.get? b = some u)
    (ho : ∀ b, H b = some (.own a) → H' b = some (.own a)) (ht : ∀ b xs, H b = some (.tup xs) → H' b = some (.tup xs)) : ObjOk P w H' h' a o := by
  induction o with
  | lst xs => obtain ⟨z, its, n, r, e⟩ := x; exact ⟨z, its, n, r, k _ _ (.inl rfl) e⟩
  | tup xs => obtain ⟨z, its, r, ob, e, c⟩ := x; exact ⟨z, its, r, ob, k _ _ (.inl rfl) e, c⟩
  | dK kvs => obtain ⟨z, y, vs, r, ob, es, ep, e, c⟩ := x; exact ⟨z, y, vs, r, ob, es, ep, k _ _ (.inl rfl) e, c⟩
  | dT kvs =>
    obtain ⟨z, y, xs, r, ob, es, ep, e, c⟩ := x
    exact ⟨z, y, xs, Paired.mapP r fun p q z => ⟨z.1, ht _ _ z.2.1, z.2.2⟩, ob, es, ep, k _ _ (.inl rfl) e, c⟩
  | set S n => obtain ⟨ob, es, ep, t, e, c⟩ := x; exact ⟨ob, es, ep, t, k _ _ (.inl rfl) e, c⟩
  | ins C dx fs =>
    obtain ⟨d, z, ne, e, mA, ⟨od, es, ep, e2, c⟩, r⟩ := x
    exact ⟨ho _ d, z, ne, k _ _ (.inl rfl) e, mA, ⟨od, es, ep, k _ _ (.inr d) e2, c⟩, r⟩
  | own y => obtain ⟨ob, e⟩ := x; exact ⟨ob, k _ _ (.inl rfl) e⟩
  | xd fs => obtain ⟨mA, ⟨od, es, ep, e, c⟩, r⟩ := x; exact ⟨mA, ⟨od, es, ep, k _ _ (.inl rfl) e, c⟩, r⟩
  | rng lo hi => obtain ⟨t, u, v, e⟩ := x; exact ⟨t, u, v, k _ _ (.inl rfl) e⟩
  | frz ob u ih => obtain ⟨e, q⟩ := x; exact ⟨k _ _ (.inl rfl) e, ih q⟩
  | tbl ps =>
    have e : h.get? a = some { cls := .none, data := .fields ps } := x
    show h'.get? a = some { cls := .none, data := .fields ps }
    exact k a _ (.inl rfl) e
  | met f y =>
    have e : h.get? a = some (PySem.W.methodObj (.ref f) (.ref y)) := x
    show h'.get? a = some (PySem.W.methodObj (.ref f) (.ref y))
    exact k a _ (.inl rfl) e
  | ext φ => obtain ⟨p, ⟨o, e⟩, st⟩ := x; exact ⟨st _ _ p fun o q => k _ _ (.inl rfl) q, ⟨o, k _ _ (.inl rfl) e⟩, st⟩
theorem HOk.lt (x : HOk P w H h) (e : H a = some o) : a < h.objs.size := (x a o e).lt
theorem HOk.fresh (x : HOk P w H h) (e : h.objs.size ≤ a) : H a = none := by
  cases q : H a with
  | none => rfl
  | some u => exact absurd (Nat.lt_of_lt_of_le (x.lt q) e) (Nat.lt_irrefl _)
theorem HOk.kept (x : HOk P w H h) (k : ∀ b u, h.get? b = some u → h'.get? b = some u) : HOk P w H h' := fun a o e =>
  (x a o e).stay (fun b u _ q => k b u q) (fun _ q => q) fun _ _ q => q
theorem HOk.laid (x : HOk P w H h) (k : ∀ b u, h.get? b = some u → h'.get? b = some u) (hp : h.objs.size ≤ a) (new : ObjOk P w (upd H a o) h' a o) : HOk P w (upd H a o) h' := fun b u e => by
  have hn := x.fresh hp
  by_cases hb : b = a
  · subst hb; rw [upd_same] at e; cases e; exact new
  · rw [upd_ne hb] at e
    exact (x b u e).stay (fun c v _ q => k c v q) (fun c q => by rw [upd_ne (ne_of_none q hn)]; exact q) fun c xs q => by rw [upd_ne (ne_of_none q hn)]; exact q
end
def Rd (H : Hp) (a : Addr) (u : HO) : Prop := H a = some u ∨ ∃ o, H a = some (.frz o u)
theorem Rd.ok {P : Program} {w : World} {H : Hp} {h : Heap} {a : Addr} {u : HO} (r : Rd H a u) (x : HOk P w H h) : ObjOk P w H h a u := by
  rcases r with r | ⟨o, r⟩
  · exact x a u r
  · obtain ⟨_, q⟩ := x a _ r
    exact q
def Mut : Option HO → Prop
  | some (.lst _) => True
  | some (.dK _) => True
  | some (.dT _) => True
  | some (.set _ _) => True
  | some (.ins _ _ _) => True
  | some (.ext _) => True
  | _ => False
section
variable {P : Program} {w : World} {H : Hp} {h h' : Heap} {x e : Addr} {o' : HO}
theorem HOk.write (ok : HOk P w H h) (mu : Mut (H x)) (he : e = x ∨ H e = some (.own x)) (k : ∀ b u, b ≠ e → h.get? b = some u → h'.get? b = some u) (heo : ∃ u, h'.get? e = some u)
    (new : ObjOk P w (upd H x o') h' x o') : HOk P w (upd H x o') h' := fun b u q => by
  have nown : ∀ c y, H c = some (.own y) → c ≠ x := fun c y r z => by subst z; rw [r] at mu; exact mu
  have ntup : ∀ c xs, H c = some (.tup xs) → c ≠ x := fun c xs r z => by subst z; rw [r] at mu; exact mu
  by_cases hb : b = x
  · subst hb; rw [upd_same] at q; cases q; exact new
  · rw [upd_ne hb] at q
    by_cases hbe : b = e
    · have q' : H b = some (.own x) := by
        rcases he with z | z
        · exact absurd (hbe.trans z) hb
        · rw [hbe]; exact z
      rw [q] at q'; cases q'
      obtain ⟨v, hv⟩ := heo
      exact ⟨v, by rw [hbe]; exact hv⟩
    · refine (ok b u q).stay (fun c v hc r => k c v ?_ r) (fun c r => by rw [upd_ne (nown c b r)]; exact r) fun c xs r => by rw [upd_ne (ntup c xs r)]; exact r
      rcases hc with rfl | hc
      · exact hbe
      · rintro rfl
        rcases he with z | z
        · exact nown c b hc z
        · rw [hc] at z; cases z; exact hb rfl
end
structure Un (fs ex : List Addr) (H H' : Hp) (h h' : Heap) : Prop where
  keep : ∀ b o, h.get? b = some o → H b = none → b ∉ fs → b ∉ ex → h'.get? b = some o
  slot : ∀ b o, h.get? b = some o → H b = none → b ∈ fs → b ∉ ex → ∃ sl, h'.get? b = some { o with slots := sl }
  free : ∀ b o, h.get? b = some o → H b = none → b ∉ ex → H' b = none
  there : ∀ b o, h.get? b = some o → b ∉ ex → ∃ o', h'.get? b = some o'
  tups : ∀ b xs, H b = some (.tup xs) → H' b = some (.tup xs)
  frzs : ∀ b o u, H b = some (.frz o u) → H' b = some (.frz o u)
  tbls : ∀ b ps, H b = some (.tbl ps) → ∃ more, H' b = some (.tbl (ps ++ more))
section
variable {fs fs' ex ex' : List Addr} {H H1 H2 : Hp} {h h1 h2 h' : Heap} {a x e : Addr} {o : HO}
theorem Un.any (u : Un fs ex H H1 h h1) {b : Addr} {ob : Obj} (q : h.get? b = some ob) (n : H b = none) (hx : b ∉ ex) : ∃ sl, h1.get? b = some { ob with slots := sl } := by
  by_cases hb : b ∈ fs
  · exact u.slot b ob q n hb hx
  · exact ⟨ob.slots, u.keep b ob q n hb hx⟩
theorem Un.kept (k : ∀ b u, h.get? b = some u → h'.get? b = some u) : Un fs ex H H h h' :=
  ⟨fun b ob q _ _ _ => k b ob q, fun b ob q _ _ _ => ⟨ob.slots, k b ob q⟩, fun _ _ _ n _ => n, fun b ob q _ => ⟨ob, k b ob q⟩, fun _ _ q => q, fun _ _ _ q => q, fun _ ps q => ⟨#[], by rw [q]; simp⟩⟩
theorem Un.refl : Un fs ex H H h h := Un.kept fun _ _ q => q
theorem Un.laid (k : ∀ b u, h.get? b = some u → h'.get? b = some u) (hp : h.objs.size ≤ a) (hn : H a = none) : Un fs ex H (upd H a o) h h' where
  keep := fun b u q _ _ _ => k b u q
  slot := fun b u q _ _ _ => ⟨u.slots, k b u q⟩
  free := fun b u q n _ => by rw [upd_ne (Nat.ne_of_lt (Nat.lt_of_lt_of_le (Heap.lt_size q) hp))]; exact n
  there := fun b u q _ => ⟨u, k b u q⟩
  tups := fun b xs q => by rw [upd_ne (ne_of_none q hn)]; exact q
  frzs := fun b u xs q => by rw [upd_ne (ne_of_none q hn)]; exact q
  tbls := fun b ps q => ⟨#[], by rw [upd_ne (ne_of_none q hn), q]; simp⟩
theorem Un.write (mu : Mut (H x)) (he : e = x ∨ H e = some (.own x)) (k : ∀ b u, b ≠ e → h.get? b = some u → h'.get? b = some u) (heo : ∃ u, h'.get? e = some u) : Un fs ex H (upd H x o) h h' := by
  have hx : ∀ b, H b = none → b ≠ x := fun b n z => by subst z; rw [n] at mu; exact mu
  have hb : ∀ b, H b = none → b ≠ e := fun b n z => by
    subst z
    rcases he with r | r
    · exact hx b n r
    · rw [n] at r; cases r
  have hm : ∀ b u, H b = some u → ¬ Mut (some u) → b ≠ x := fun b u q nm z => by subst z; rw [q] at mu; exact nm mu
  refine ⟨fun b u q n _ _ => k b u (hb b n) q, fun b u q n _ _ => ⟨u.slots, k b u (hb b n) q⟩, fun b u q n _ => by rw [upd_ne (hx b n)]; exact n, fun b u q _ => ?_,
    fun b xs q => by rw [upd_ne (hm b _ q fun z => z)]; exact q, fun b u xs q => by rw [upd_ne (hm b _ q fun z => z)]; exact q, fun b ps q => ⟨#[], by rw [upd_ne (hm b _ q fun z => z), q]; simp⟩⟩
  by_cases hbe : b = e
  · subst hbe; exact heo
  · exact ⟨u, k b u hbe q⟩
end
def trk (h : Heap) (H : Hp) : List Addr := (List.range h.objs.size).filter fun a => (H a).isSome
def hidT (h : Heap) (H : Hp) : Heap := PySem.W.hideAll h (trk h H)
theorem hidT_size (h : Heap) (H : Hp) : (hidT h H).objs.size = h.objs.size := PySem.W.hideAll_size _ _
theorem hidT_get {h : Heap} {H : Hp} {b : Addr} {o : Obj} (e : h.get? b = some o) (n : H b = none) : (hidT h H).get? b = some o :=
  PySem.W.hideAll_get _ e fun hm => by
    have q : (H b).isSome = true := (List.mem_filter.mp hm).2
    rw [n] at q; simp at q
theorem of_hidT {h : Heap} {H : Hp} {b : Addr} {o : Obj} (e : (hidT h H).get? b = some o) : h.get? b = some o ∧ H b = none := by
  have e' : h.get? b = some o := PySem.W.of_hideAll (trk h H) e
  refine ⟨e', ?_⟩
  cases q : H b with
  | none => rfl
  | some x =>
    have hm : b ∈ trk h H := List.mem_filter.mpr ⟨List.mem_range.mpr (Heap.lt_size e'), by simp [q]⟩
    have z : (hidT h H).get? b = none := PySem.W.hideAll_none (trk h H) hm
    rw [z] at e; cases e
def allNews (g h : Heap) (L : Addr) : List (Addr × Obj) := (List.range h.objs.size).filterMap fun a => if a = L ∨ (g.get? a).isSome = true then none else (h.get? a).map fun o => (a, o)
def rest (g h : Heap) (L d : Addr) : List (Addr × Obj) := (allNews g h L).filter fun p => decide (p.1 ≠ d)
end L2
namespace L2
open PySem PySem.Spec PyProof.Rows
structure Mod (K : PySem.W.Frag) (mg : Str → Option Value) (base : Heap) : Prop where
  kin : K.In base
  glob : base.Ns mainGlobals mg
  blt : ∃ mb, base.Ns builtinsNs mb ∧ ∀ x : Str, x ≠ "__name__" → mb x = bootBuiltins x
  nolimit : base.NoLimit
structure Cx where
  prog : Program
  w : World
  K : PySem.W.Frag
  mg : Str → Option Value
  base : Heap
  A : Around
  N : List Str
  s₀ : Shared
  H₀ : Hp
  env : Env
  outer : List Env
  stack : List Env
  ex : List Addr
  fn : Str → Bool
  calm : Bool
  pn : List (Addr × Obj)
  xe : Value → Shared → Prop
def frs (l : List Env) : List Addr := l.filterMap (·.frame)
abbrev Cx.fs (X : Cx) : List Addr := frs X.outer
def Vis (sc : Scope) (x : Str) : Prop := sc.names.lookup x = some .local ∨ sc.names.lookup x = some .cell ∨ sc.names.lookup x = some .free
def Loc (sc : Scope) (x : Str) : Prop := sc.names.lookup x = some .local ∨ sc.names.lookup x = some .cell
def Look (env : Env) (h : Heap) (m : Str → Option Value) (x : Str) (u : Value) : Prop :=
  (env.kindOf x = some .local ∧ m x = some u) ∨ ((env.kindOf x = some .cell ∨ env.kindOf x = some .free) ∧ ∃ c, env.cells.lookup x = some c ∧ h.IsCell c (some u))
structure Cx.Ok (X : Cx) : Prop where
  mod : Mod X.K X.mg X.base
  kind : X.env.scope.kind = .function
  glob : X.env.globals = mainGlobals
  blt : X.env.builtins = builtinsNs
  above : X.s₀.heap.objs.size ≤ X.env.locals
  inj : ∀ x y c, X.env.cells.lookup x = some c → X.env.cells.lookup y = some c → x = y
  has : ∀ x, (X.env.kindOf x = some .cell ∨ X.env.kindOf x = some .free) → ∃ c, X.env.cells.lookup x = some c
  cab : ∀ x c, X.fn x = true → X.env.cells.lookup x = some c → X.s₀.heap.objs.size ≤ c
  hd : X.calm = true → X.A.handled = none
  frames : X.A.frames = some X.stack
  stk : X.stack = X.outer ∨ (X.stack = X.env :: X.outer ∧ X.env.frame = some X.env.locals)
  exf : ∀ b ∈ X.ex, b ≠ X.env.locals ∧ ∀ x c, X.env.cells.lookup x = some c → c ≠ b
  bs : ∀ b o, X.base.get? b = some o → X.s₀.heap.get? b = some o ∧ X.H₀ b = none
  bsz : X.base.objs.size ≤ X.s₀.heap.objs.size
  noex : ∀ b o, X.base.get? b = some o → b ∉ X.ex
  exfs : ∀ b ∈ X.ex, b ∉ X.fs
  funs : X.s₀.heap.FunFrames X.base X.outer
  frf : ∀ b ∈ X.fs, X.H₀ b = none
structure Inv (X : Cx) (pins : List (Addr × Obj)) (σ : List (Option V)) (H : Hp) (s : Shared) : Prop where
  ok : X.Ok
  os : s.os = X.s₀.os
  bare : AllBare s.gens
  base : Un X.fs X.ex X.H₀ H X.s₀.heap s.heap
  loc : ∃ m, s.heap.Ns X.env.locals m ∧ ∀ (i : Nat) (x : Str) (v : V), X.N[i]? = some x → σ[i]? = some (some v) → Vis X.env.scope x → ∃ u, RelV v u ∧ Look X.env s.heap m x u
  cell : ∀ x c, X.env.cells.lookup x = some c → ∃ v, s.heap.IsCell c v
  free : H X.env.locals = none
  freeC : ∀ x c, X.env.cells.lookup x = some c → H c = none
  pin : ∀ p ∈ X.pn ++ pins, s.heap.get? p.1 = some p.2 ∧ H p.1 = none ∧ p.1 ≠ X.env.locals ∧ p.1 ∉ X.fs ∧ ∀ v, p.2.data ≠ .cell v
  hok : HOk X.prog X.w H s.heap
  len : σ.length = X.N.length
section
variable {X : Cx} {pins : List (Addr × Obj)} {σ : List (Option V)} {H H' : Hp} {s : Shared} {h' : Heap}
theorem Cx.Ok.nofr (ok : X.Ok) {b : Addr} {o : Obj} (e : X.base.get? b = some o) : b ∉ X.fs := fun hb => by
  have := (ok.funs.mem hb).1
  rw [e] at this; cases this
theorem Inv.bs (I : Inv X pins σ H s) : ∀ b o, X.base.get? b = some o → s.heap.get? b = some o ∧ H b = none := fun b o e =>
  ⟨I.base.keep b o (I.ok.bs b o e).1 (I.ok.bs b o e).2 (I.ok.nofr e) (I.ok.noex b o e), I.base.free b o (I.ok.bs b o e).1 (I.ok.bs b o e).2 (I.ok.noex b o e)⟩
theorem Inv.bk (I : Inv X pins σ H s) : ∀ b o, X.base.get? b = some o → s.heap.get? b = some o := fun b o e => (I.bs b o e).1
theorem Inv.mod (I : Inv X pins σ H s) : Mod X.K X.mg X.base := I.ok.mod
theorem Inv.kIn (I : Inv X pins σ H s) : X.K.In s.heap := I.ok.mod.kin.keeps I.bk
theorem Inv.lt (I : Inv X pins σ H s) : X.env.locals < s.heap.objs.size := let ⟨_, hn, _⟩ := I.loc; hn.lt
theorem Inv.sz (I : Inv X pins σ H s) : X.s₀.heap.objs.size ≤ s.heap.objs.size := Nat.le_trans I.ok.above (Nat.le_of_lt I.lt)
theorem Inv.nofs (I : Inv X pins σ H s) {a : Addr} (h : s.heap.objs.size ≤ a) : a ∉ X.fs := fun hb => by
  obtain ⟨_, o, ho, _⟩ := I.ok.funs.mem hb
  exact absurd (Nat.lt_of_lt_of_le (Heap.lt_size ho) (Nat.le_trans I.sz h)) (Nat.lt_irrefl _)
theorem Inv.cne (I : Inv X pins σ H s) : ∀ x c, X.env.cells.lookup x = some c → c ≠ X.env.locals := fun x c e z => by
  obtain ⟨v, o, ho, hd⟩ := I.cell x c e
  obtain ⟨m, ⟨o', es, ep, ho', hd', _⟩, _⟩ := I.loc
  rw [z, ho'] at ho; cases ho; rw [hd'] at hd; cases hd
theorem Inv.funs (I : Inv X pins σ H s) : s.heap.FunFrames X.base X.outer := by
  have all : ∀ (l : List Env), (∀ b ∈ frs l, b ∈ X.fs) → X.s₀.heap.FunFrames X.base l → s.heap.FunFrames X.base l := by
    intro l
    induction l with
    | nil => intro _ _; trivial
    | cons env r ih =>
      intro hs hl
      obtain ⟨hk, ⟨L, o, hf, hn, ho, hd⟩, hr⟩ := hl
      have hL : L ∈ X.fs := hs L (by unfold frs; rw [List.filterMap_cons, hf]; exact List.mem_cons_self)
      obtain ⟨sl, e⟩ := I.base.slot L o ho (I.ok.frf L hL) hL fun z => I.ok.exfs L z hL
      exact ⟨hk, ⟨L, _, hf, hn, e, hd⟩, ih (fun b hb => hs b (by unfold frs; rw [List.filterMap_cons, hf]; exact List.mem_cons_of_mem _ hb)) hr⟩
  exact all X.outer (fun _ hb => hb) I.ok.funs
theorem Inv.stack (I : Inv X pins σ H s) : s.heap.FunFrames X.base X.stack := by
  rcases I.ok.stk with e | ⟨e, hf⟩
  · rw [e]; exact I.funs
  · rw [e]
    obtain ⟨m, hn, _⟩ := I.loc
    refine .cons (by rw [I.ok.kind]; decide) hf hn ?_ I.funs
    exact Heap.get?_none_of_le (Nat.le_trans I.ok.bsz I.ok.above)
theorem Inv.stkSub (I : Inv X pins σ H s) : ∀ b ∈ frs X.stack, b ∈ X.env.locals :: X.fs := fun b hb => by
  rcases I.ok.stk with e | ⟨e, hf⟩
  · rw [e] at hb; exact List.mem_cons_of_mem _ hb
  · rw [e] at hb
    unfold frs at hb
    rw [List.filterMap_cons, hf] at hb
    exact hb
theorem Inv.stkFree (I : Inv X pins σ H s) : ∀ b ∈ frs X.stack, H b = none := fun b hb => by
  rcases List.mem_cons.mp (I.stkSub b hb) with e | hb
  · rw [e]; exact I.free
  · obtain ⟨_, o, ho, _⟩ := I.ok.funs.mem hb
    exact I.base.free b o ho (I.ok.frf b hb) fun z => I.ok.exfs b z hb
theorem Inv.step {g' : Array GenState} {t' : Nat} {d' : Drawn} {ch : List Addr} (I : Inv X pins σ H s)
    (hch : ∀ b ∈ ch, (b ∈ X.ex ∨ X.s₀.heap.objs.size ≤ b) ∧ b ≠ X.env.locals ∧ (∀ x c, X.env.cells.lookup x = some c → c ≠ b) ∧ ∀ p ∈ X.pn ++ pins, p.1 ≠ b)
    (keep : ∀ b o, b ≠ X.env.locals → b ∉ X.fs → b ∉ ch → s.heap.get? b = some o → H b = none → h'.get? b = some o)
    (slot : ∀ b o, b ≠ X.env.locals → b ∈ X.fs → b ∉ ch → s.heap.get? b = some o → H b = none → ∃ sl, h'.get? b = some { o with slots := sl }) (free : ∀ b o, b ∉ ch → s.heap.get? b = some o → H b = none → H' b = none)
    (there : ∀ b o, b ∉ ch → s.heap.get? b = some o → ∃ o', h'.get? b = some o')
    (tups : ∀ b xs, H b = some (.tup xs) → H' b = some (.tup xs)) (frzs : ∀ b o u, H b = some (.frz o u) → H' b = some (.frz o u)) (tbls : ∀ b ps, H b = some (.tbl ps) → ∃ more, H' b = some (.tbl (ps ++ more)))
    (ns : ∀ m, s.heap.Ns X.env.locals m → h'.Ns X.env.locals m) (hok : HOk X.prog X.w H' h') (hg : AllBare g') :
    Inv X pins σ H' { s with heap := h', gens := g', drawn := d', toks := t' } := by
  have neL : ∀ b o, X.s₀.heap.get? b = some o → b ≠ X.env.locals := fun b o e => Nat.ne_of_lt (Nat.lt_of_lt_of_le (Heap.lt_size e) I.ok.above)
  have neC : ∀ b o, X.s₀.heap.get? b = some o → b ∉ X.ex → b ∉ ch := fun b o e hx hb => by
    rcases (hch b hb).1 with z | z
    · exact hx z
    · exact absurd (Nat.lt_of_lt_of_le (Heap.lt_size e) z) (Nat.lt_irrefl _)
  have cellK : ∀ x c, X.env.cells.lookup x = some c → ∀ v, s.heap.IsCell c v → h'.IsCell c v := fun x c e v ⟨o, ho, hd⟩ => by
    have nch : c ∉ ch := fun z => (hch c z).2.2.1 x c e rfl
    by_cases hc : c ∈ X.fs
    · obtain ⟨sl, q⟩ := slot c o (I.cne x c e) hc nch ho (I.freeC x c e)
      exact ⟨_, q, hd⟩
    · exact ⟨o, keep c o (I.cne x c e) hc nch ho (I.freeC x c e), hd⟩
  refine ⟨I.ok, I.os, hg, ⟨fun b o e n hb hx => ?_, fun b o e n hb hx => ?_, fun b o e n hx => ?_, fun b o e hx => ?_, fun b xs e => tups b xs (I.base.tups b xs e), fun b o xs e => frzs b o xs (I.base.frzs b o xs e), fun b ps e => ?_⟩, ?_, fun x c e => ?_, ?_, fun x c e => ?_, fun p hp => ?_, hok, I.len⟩
  · exact keep b o (neL b o e) hb (neC b o e hx) (I.base.keep b o e n hb hx) (I.base.free b o e n hx)
  · obtain ⟨sl, e1⟩ := I.base.slot b o e n hb hx
    obtain ⟨sl', e2⟩ := slot b _ (neL b o e) hb (neC b o e hx) e1 (I.base.free b o e n hx)
    exact ⟨sl', e2⟩
  · obtain ⟨o', e1⟩ := I.base.there b o e hx
    exact free b o' (neC b o e hx) e1 (I.base.free b o e n hx)
  · obtain ⟨o', e1⟩ := I.base.there b o e hx
    exact there b o' (neC b o e hx) e1
  · obtain ⟨m1, e1⟩ := I.base.tbls b ps e
    obtain ⟨m2, e2⟩ := tbls b _ e1
    exact ⟨m1 ++ m2, by rw [e2, Array.append_assoc]⟩
  · obtain ⟨m, hn, hl⟩ := I.loc
    refine ⟨m, ns m hn, fun i x v e1 e2 e3 => ?_⟩
    obtain ⟨u, r, l⟩ := hl i x v e1 e2 e3
    refine ⟨u, r, ?_⟩
    rcases l with l | ⟨k, c, e, z⟩
    · exact .inl l
    · exact .inr ⟨k, c, e, cellK x c e _ z⟩
  · obtain ⟨v, z⟩ := I.cell x c e
    exact ⟨v, cellK x c e v z⟩
  · obtain ⟨m, ⟨o, _, _, ho, _⟩, _⟩ := I.loc
    exact free _ o (fun z => (hch _ z).2.1 rfl) ho I.free
  · obtain ⟨v, o, ho, hd⟩ := I.cell x c e
    exact free c o (fun z => (hch c z).2.2.1 x c e rfl) ho (I.freeC x c e)
  · obtain ⟨e, n, ne, nf, d⟩ := I.pin p hp
    have nch : p.1 ∉ ch := fun z => (hch p.1 z).2.2.2 p hp rfl
    exact ⟨keep p.1 p.2 ne nf nch e n, free p.1 p.2 nch e n, ne, nf, d⟩
theorem Inv.un {t' : Nat} (I : Inv X pins σ H s) (u : Un X.fs [] H H' s.heap h') (hok : HOk X.prog X.w H' h') : Inv X pins σ H' { s with heap := h', toks := t' } := by
  obtain ⟨m, ⟨o, es, ep, ho, r⟩, _⟩ := id I.loc
  obtain ⟨sl, hL⟩ := u.any ho I.free (by simp)
  exact I.step (g' := s.gens) (d' := s.drawn) (ch := []) (fun _ z => nomatch z) (fun b o _ hb _ e n => u.keep b o e n hb (by simp)) (fun b o _ hb _ e n => u.slot b o e n hb (by simp)) (fun b o _ e n => u.free b o e n (by simp)) (fun b o _ e => u.there b o e (by simp)) u.tups u.frzs u.tbls (fun m' hm => by
    obtain ⟨o', es', ep', ho', r'⟩ := hm
    rw [ho] at ho'; cases ho'
    exact ⟨_, es', ep', hL, r'⟩) hok I.bare
theorem Inv.call {g' : Array GenState} {t' : Nat} {d' : Drawn} {ch : List Addr} (I : Inv X pins σ H s) (u : Un (frs X.stack) ch H H' s.heap h') (hok : HOk X.prog X.w H' h') (hg : AllBare g')
    (hch : ∀ b ∈ ch, (b ∈ X.ex ∨ X.s₀.heap.objs.size ≤ b) ∧ b ≠ X.env.locals ∧ (∀ x c, X.env.cells.lookup x = some c → c ≠ b) ∧ ∀ p ∈ X.pn ++ pins, p.1 ≠ b) :
    Inv X pins σ H' { s with heap := h', gens := g', drawn := d', toks := t' } := by
  obtain ⟨m, ⟨o, es, ep, ho, r⟩, _⟩ := id I.loc
  obtain ⟨sl, hL⟩ := u.any ho I.free fun z => (hch _ z).2.1 rfl
  exact I.step (ch := ch) hch (fun b o hL hb hc e n => u.keep b o e n (fun z => (List.mem_cons.mp (I.stkSub b z)).elim hL hb) hc) (fun b o _ _ hc e n => u.any e n hc) (fun b o hc e n => u.free b o e n hc) (fun b o hc e => u.there b o e hc) u.tups u.frzs u.tbls (fun m' hm => by
    obtain ⟨o', es', ep', ho', r'⟩ := hm
    rw [ho] at ho'; cases ho'
    exact ⟨_, es', ep', hL, r'⟩) hok hg
theorem Inv.turned {t' : Nat} {it : Addr} (I : Inv X pins σ H s) (k : ∀ b o, b ≠ it → s.heap.get? b = some o → h'.get? b = some o) (hn : H it = none) (hL : it ≠ X.env.locals)
    (h1 : it ∈ X.ex ∨ X.s₀.heap.objs.size ≤ it) (h2 : ∀ x c, X.env.cells.lookup x = some c → c ≠ it) (h3 : ∀ p ∈ X.pn ++ pins, p.1 ≠ it) : Inv X pins σ H { s with heap := h', toks := t' } := by
  have nit : ∀ b u, H b = some u → b ≠ it := fun b u e z => by rw [z, hn] at e; cases e
  refine I.step (g' := s.gens) (d' := s.drawn) (ch := [it]) (fun b hb => ?_) (fun b o _ _ hc e _ => k b o (fun z => hc (by simp [z])) e) (fun b o _ _ hc e _ => ⟨o.slots, k b o (fun z => hc (by simp [z])) e⟩) (fun _ _ _ _ n => n)
    (fun b o hc e => ⟨o, k b o (fun z => hc (by simp [z])) e⟩) (fun _ _ e => e) (fun _ _ _ e => e) (fun b ps e => ⟨#[], by rw [e]; simp⟩) (fun m hm => ?_) (fun b u e => ?_) I.bare
  · have e : b = it := by simpa using hb
    subst e
    exact ⟨h1, hL, h2, h3⟩
  · obtain ⟨o, es, ep, ho, r⟩ := hm
    exact ⟨o, es, ep, k _ o (Ne.symm hL) ho, r⟩
  · refine (I.hok b u e).stay (fun c v hc q => k c v ?_ q) (fun _ q => q) fun _ _ q => q
    rcases hc with z | z
    · rw [z]; exact nit b u e
    · exact nit c _ z
theorem Inv.tok (I : Inv X pins σ H s) (t : Nat) : Inv X pins σ H { s with toks := t } := I.un (h' := s.heap) (t' := t) Un.refl I.hok
theorem Inv.kept {t' : Nat} (I : Inv X pins σ H s) (k : ∀ b u, s.heap.get? b = some u → h'.get? b = some u) : Inv X pins σ H { s with heap := h', toks := t' } := I.un (Un.kept k) (I.hok.kept k)
theorem Inv.laid {a : Addr} {o : HO} {t' : Nat} (I : Inv X pins σ H s) (k : ∀ b u, s.heap.get? b = some u → h'.get? b = some u) (hp : s.heap.objs.size ≤ a) (new : ObjOk X.prog X.w (upd H a o) h' a o) :
    Inv X pins σ (upd H a o) { s with heap := h', toks := t' } := I.un (Un.laid k hp (I.hok.fresh hp)) (I.hok.laid k hp new)
theorem Inv.write {x e : Addr} {o : HO} {t' : Nat} (I : Inv X pins σ H s) (mu : Mut (H x)) (he : e = x ∨ H e = some (.own x)) (k : ∀ b u, b ≠ e → s.heap.get? b = some u → h'.get? b = some u) (heo : ∃ u, h'.get? e = some u)
    (new : ObjOk X.prog X.w (upd H x o) h' x o) : Inv X pins σ (upd H x o) { s with heap := h', toks := t' } := I.un (Un.write mu he k heo) (I.hok.write mu he k heo new)
theorem Inv.weak {σ' : List (Option V)} (I : Inv X pins σ H s) (hl : σ'.length = σ.length) (w : ∀ (i : Nat) v, σ'[i]? = some (some v) → σ[i]? = some (some v)) : Inv X pins σ' H s :=
  ⟨I.ok, I.os, I.bare, I.base, let ⟨m, hn, hl'⟩ := I.loc; ⟨m, hn, fun i x v e1 e2 e3 => hl' i x v e1 (w i v e2) e3⟩, I.cell, I.free, I.freeC, I.pin, I.hok, hl.trans I.len⟩
theorem Inv.pins_of {pins' : List (Addr × Obj)} (I : Inv X pins σ H s) (h : ∀ p ∈ pins', s.heap.get? p.1 = some p.2 ∧ H p.1 = none ∧ p.1 ≠ X.env.locals ∧ p.1 ∉ X.fs ∧ ∀ v, p.2.data ≠ .cell v) : Inv X pins' σ H s :=
  ⟨I.ok, I.os, I.bare, I.base, I.loc, I.cell, I.free, I.freeC, fun p hp => (List.mem_append.mp hp).elim (fun z => I.pin p (List.mem_append_left _ z)) (h p), I.hok, I.len⟩
theorem nodup_ix {N : List Str} (hN : N.Nodup) {i j : Nat} {x : Str} (a : N[i]? = some x) (b : N[j]? = some x) : i = j := by
  obtain ⟨h1, e1⟩ := List.getElem?_eq_some_iff.mp a
  obtain ⟨h2, e2⟩ := List.getElem?_eq_some_iff.mp b
  exact (List.getElem_inj hN).mp (e1.trans e2.symm)
theorem store_ok2 {M : Model} {A : Around} {E : Value → Shared → Prop} {i : Nat} {x : Str} {v : V} {u : Value} {Q : Unit → Shared → Prop} (I : Inv X pins σ H s) (hN : X.N.Nodup) (hi : X.N[i]? = some x) (hx : Loc X.env.scope x) (r : RelV v u)
    (h : ∀ s', Inv X pins (σ.set i (some v)) H s' → (∃ a, Heap.SameBut a s.heap s'.heap ∧ (a = X.env.locals ∨ X.env.cells.lookup x = some a)) → Q () s') (hf : X.fn x = true ∨ X.env.scope.names.lookup x = some .local := by first | exact .inl rfl | exact .inr rfl | assumption) : wpAny M A (storeName X.env x u) Q E s := by
  obtain ⟨m, hn, hl⟩ := id I.loc
  have hcls : (X.env.scope.kind == .class || (X.env.scope.kind == .module && X.env.locals != X.env.globals)) = false := by rw [I.ok.kind]; rfl
  have hiσ : i < σ.length := by rw [I.len]; exact (List.getElem?_eq_some_iff.mp hi).1
  have cne := I.cne
  have tracked : ∀ {a : Addr} {h' : Heap}, (∃ o, s.heap.get? a = some o ∧ H a = none) → Heap.SameBut a s.heap h' → HOk X.prog X.w H h' := fun {a h'} ha hs b ob e => by
    obtain ⟨_, _, hfree⟩ := ha
    refine (I.hok b ob e).stay (fun c w' hc q => (hs.2 c ?_).trans q) (fun _ q => q) fun _ _ q => q
    rintro rfl
    rcases hc with rfl | hc
    · rw [hfree] at e; cases e
    · rw [hfree] at hc; cases hc
  rcases hx with hk | hk
  · refine wpAny_storeName_local hk hn (fun h' hn' hs => ?_) hcls
    obtain ⟨oL, _, _, hoL, _⟩ := id hn
    refine h _ ⟨I.ok, I.os, I.bare, ⟨fun b o e n hb hx => ?_, fun b o e n hb hx => ?_, I.base.free, fun b o e hx => ?_, I.base.tups, I.base.frzs, I.base.tbls⟩, ⟨_, hn', fun j y v' e1 e2 e3 => ?_⟩, fun y c e => ?_, I.free, I.freeC, fun p hp => ?_, tracked ⟨oL, hoL, I.free⟩ hs, by simpa using I.len⟩ ⟨_, hs, .inl rfl⟩
    · exact (hs.2 b (Nat.ne_of_lt (Nat.lt_of_lt_of_le (Heap.lt_size e) I.ok.above))).trans (I.base.keep b o e n hb hx)
    · obtain ⟨sl, e1⟩ := I.base.slot b o e n hb hx
      exact ⟨sl, (hs.2 b (Nat.ne_of_lt (Nat.lt_of_lt_of_le (Heap.lt_size e) I.ok.above))).trans e1⟩
    · obtain ⟨o', e1⟩ := I.base.there b o e hx
      exact ⟨o', (hs.2 b (Nat.ne_of_lt (Nat.lt_of_lt_of_le (Heap.lt_size e) I.ok.above))).trans e1⟩
    · by_cases hj : j = i
      · subst hj
        rw [hi] at e1; cases e1
        rw [List.getElem?_set_self hiσ] at e2
        cases e2
        exact ⟨u, r, .inl ⟨hk, by simp⟩⟩
      · rw [List.getElem?_set_ne (Ne.symm hj)] at e2
        obtain ⟨u', r', q⟩ := hl j y v' e1 e2 e3
        refine ⟨u', r', ?_⟩
        rcases q with ⟨k, e⟩ | ⟨k, c, e, z⟩
        · refine .inl ⟨k, ?_⟩
          have : y ≠ x := fun e => hj (nodup_ix hN e1 (e ▸ hi))
          simp [this, e]
        · exact .inr ⟨k, c, e, z.sameBut hs (cne y c e)⟩
    · obtain ⟨w', z⟩ := I.cell y c e
      exact ⟨w', z.sameBut hs (cne y c e)⟩
    · obtain ⟨e, n, ne, nf, d⟩ := I.pin p hp
      exact ⟨(hs.2 p.1 ne).trans e, n, ne, nf, d⟩
  · have hfn : X.fn x = true := by
      rcases hf with z | z
      · exact z
      · rw [z] at hk; cases hk
    obtain ⟨c, hc⟩ := I.ok.has x (.inl hk)
    obtain ⟨w', z⟩ := I.cell x c hc
    refine wpAny_storeName_cell I.ok.kind hk hc z (fun h' hc' hs => ?_)
    obtain ⟨oc, hoc, hocd⟩ := id z
    refine h { s with heap := h' } ⟨I.ok, I.os, I.bare, ⟨fun b o e n hb hx => ?_, fun b o e n hb hx => ?_, I.base.free, fun b o e hx => ?_, I.base.tups, I.base.frzs, I.base.tbls⟩, ⟨m, hn.sameBut hs (Ne.symm (cne x c hc)), fun j y v' e1 e2 e3 => ?_⟩, fun y c' e => ?_, I.free, I.freeC, fun p hp => ?_, tracked ⟨oc, hoc, I.freeC x c hc⟩ hs, by simpa using I.len⟩ ⟨c, hs, .inr hc⟩
    · exact (hs.2 b (Nat.ne_of_lt (Nat.lt_of_lt_of_le (Heap.lt_size e) (I.ok.cab x c hfn hc)))).trans (I.base.keep b o e n hb hx)
    · obtain ⟨sl, e1⟩ := I.base.slot b o e n hb hx
      exact ⟨sl, (hs.2 b (Nat.ne_of_lt (Nat.lt_of_lt_of_le (Heap.lt_size e) (I.ok.cab x c hfn hc)))).trans e1⟩
    · obtain ⟨o', e1⟩ := I.base.there b o e hx
      exact ⟨o', (hs.2 b (Nat.ne_of_lt (Nat.lt_of_lt_of_le (Heap.lt_size e) (I.ok.cab x c hfn hc)))).trans e1⟩
    · by_cases hj : j = i
      · subst hj
        rw [hi] at e1; cases e1
        rw [List.getElem?_set_self hiσ] at e2
        cases e2
        exact ⟨u, r, .inr ⟨.inl hk, c, hc, hc'⟩⟩
      · rw [List.getElem?_set_ne (Ne.symm hj)] at e2
        obtain ⟨u', r', q⟩ := hl j y v' e1 e2 e3
        refine ⟨u', r', ?_⟩
        rcases q with q | ⟨k, c', e, z'⟩
        · exact .inl q
        · refine .inr ⟨k, c', e, z'.sameBut hs ?_⟩
          rintro rfl
          exact hj (nodup_ix hN e1 (I.ok.inj _ _ _ e hc ▸ hi))
    · by_cases hcc : c' = c
      · subst hcc; exact ⟨_, hc'⟩
      · obtain ⟨w2, z2⟩ := I.cell y c' e
        exact ⟨w2, z2.sameBut hs hcc⟩
    · obtain ⟨e, n, ne, nf, d⟩ := I.pin p hp
      refine ⟨(hs.2 p.1 ?_).trans e, n, ne, nf, d⟩
      intro q
      rw [q, hoc] at e
      have q' : oc = p.2 := Option.some.inj e
      exact d w' (by rw [← q']; exact hocd)
theorem store_ok {M : Model} {A : Around} {E : Value → Shared → Prop} {i : Nat} {x : Str} {v : V} {u : Value} {Q : Unit → Shared → Prop} (I : Inv X pins σ H s) (hN : X.N.Nodup) (hi : X.N[i]? = some x) (hx : Loc X.env.scope x) (r : RelV v u)
    (h : ∀ s', Inv X pins (σ.set i (some v)) H s' → Q () s') (hf : X.fn x = true ∨ X.env.scope.names.lookup x = some .local := by first | exact .inl rfl | exact .inr rfl | assumption) : wpAny M A (storeName X.env x u) Q E s :=
  store_ok2 I hN hi hx r (fun s' I' _ => h s' I') hf
theorem Inv.call' {s' : Shared} {ch : List Addr} (I : Inv X pins σ H s) (ho : s'.os = s.os) (u : Un (frs X.stack) ch H H' s.heap s'.heap) (hok : HOk X.prog X.w H' s'.heap) (hg : AllBare s'.gens)
    (hch : ∀ b ∈ ch, (b ∈ X.ex ∨ X.s₀.heap.objs.size ≤ b) ∧ b ≠ X.env.locals ∧ (∀ x c, X.env.cells.lookup x = some c → c ≠ b) ∧ ∀ p ∈ X.pn ++ pins, p.1 ≠ b) : Inv X pins σ H' s' := by
  obtain ⟨h', g', d', t', o'⟩ := s'
  have e : o' = s.os := ho
  subst e
  exact I.call (g' := g') (t' := t') (d' := d') u hok hg hch
end
abbrev XK := Value → Option Addr → Hp → Prop
abbrev St := List (Option V)
abbrev VK := V → Hp → Prop
abbrev TE := St → Hp → VK → Prop
abbrev TT := St → Hp → (Bool → Hp → Prop) → Prop
abbrev TA := St → Hp → (List V → Hp → Prop) → Prop
structure Ends where
  nx : St → Hp → Prop
  rt : VK
  bk : St → Hp → Prop := fun _ _ => False
  ct : St → Hp → Prop := fun _ _ => False
abbrev TS := Ends → St → Hp → Prop
def EP (X : Cx) (pins : List (Addr × Obj)) (σ : St) (Q : VK) (u : Value) (s' : Shared) : Prop := ∃ v H', Inv X pins σ H' s' ∧ RelV v u ∧ Q v H'
def TP (X : Cx) (pins : List (Addr × Obj)) (σ : St) (Q : Bool → Hp → Prop) (b : Bool) (s' : Shared) : Prop := ∃ H', Inv X pins σ H' s' ∧ Q b H'
def AP (X : Cx) (pins : List (Addr × Obj)) (σ : St) (Q : List V → Hp → Prop) (us : List Value) (s' : Shared) : Prop := ∃ vs H', Inv X pins σ H' s' ∧ Vals vs us ∧ Q vs H'
def SP (X : Cx) (pins : List (Addr × Obj)) (D : Ends) (f : Flow) (s' : Shared) : Prop :=
  match f with
  | .next => ∃ σ' H', Inv X pins σ' H' s' ∧ D.nx σ' H'
  | .brk => ∃ σ' H', Inv X pins σ' H' s' ∧ D.bk σ' H'
  | .cont => ∃ σ' H', Inv X pins σ' H' s' ∧ D.ct σ' H'
  | .ret u => ∃ v σ' H', Inv X pins σ' H' s' ∧ RelV v u ∧ D.rt v H'
def PE (X : Cx) (e : Expr) (t : TE) : Prop :=
  ∀ (pins : List (Addr × Obj)) (s : Shared) (σ : St) (H : Hp) (Q : VK), Inv X pins σ H s → t σ H Q → wpAny (model X.prog X.w) X.A (eval e X.env) (EP X pins σ Q) X.xe s
def PT (X : Cx) (e : Expr) (t : TT) : Prop :=
  ∀ (pins : List (Addr × Obj)) (s : Shared) (σ : St) (H : Hp) (Q : Bool → Hp → Prop), Inv X pins σ H s → t σ H Q → wpAny (model X.prog X.w) X.A (isTrue e X.env (eval e X.env)) (TP X pins σ Q) X.xe s
def PW (X : Cx) (e : Expr) (t : TT) : Prop :=
  ∀ (whole : Sem Value) (pins : List (Addr × Obj)) (s : Shared) (σ : St) (H : Hp) (Q : Bool → Hp → Prop), Inv X pins σ H s → t σ H Q → wpAny (model X.prog X.w) X.A (isTrue e X.env whole) (TP X pins σ Q) X.xe s
theorem PW.pt {X : Cx} {e : Expr} {t : TT} (h : PW X e t) : PT X e t := h _
def PA (X : Cx) (es : List Expr) (t : TA) : Prop :=
  ∀ (pos : Pos) (pins : List (Addr × Obj)) (s : Shared) (σ : St) (H : Hp) (Q : List V → Hp → Prop), Inv X pins σ H s → t σ H Q → wpAny (model X.prog X.w) X.A (spliced (backTo pos (starEach es X.env))) (AP X pins σ Q) X.xe s
def PS (X : Cx) (st : Stmt) (t : TS) : Prop :=
  ∀ (pins : List (Addr × Obj)) (s : Shared) (σ : St) (H : Hp) (D : Ends), Inv X pins σ H s → t D σ H → wpAny (model X.prog X.w) X.A (exec st X.env) (SP X pins D) X.xe s
def PSs (X : Cx) (st : List Stmt) (t : TS) : Prop :=
  ∀ (pins : List (Addr × Obj)) (s : Shared) (σ : St) (H : Hp) (D : Ends), Inv X pins σ H s → t D σ H → wpAny (model X.prog X.w) X.A (execs st X.env) (SP X pins D) X.xe s
theorem thn {α : Type} {t : Sem α} {Q Q' : α → Shared → Prop} {M : Model} {A : Around} {E : Value → Shared → Prop} {s : Shared} (h : wpAny M A t Q E s) (hQ : ∀ a s, Q a s → Q' a s) : wpAny M A t Q' E s := wpAny_mono h hQ fun _ _ x => x
end L2
namespace L2
open PySem PySem.Spec PyProof.Rows
section
variable {X : Cx}
def tVar (i : Nat) : TE := fun σ H Q => ∃ v, σ[i]? = some (some v) ∧ Q v H
def tC (v : V) : TE := fun _ H Q => Q v H
theorem pe_var {i : Nat} {x : Str} {pos : Pos} (hN : X.N[i]? = some x) (hv : Vis X.env.scope x) (hd : (x == ("__debug__" : Str)) = false := by decide) (hcd : (x == ("__classdict__" : Str)) = false := by decide) : PE X (.Name x pos) (tVar i) := by
  intro pins s σ H Q I h
  obtain ⟨v, e, h⟩ := h
  obtain ⟨m, hn, hl⟩ := I.loc
  obtain ⟨u, r, l⟩ := hl i x v hN e hv
  have fin : EP X pins σ Q u s := ⟨v, H, I, r, h⟩
  rcases l with ⟨hk, hm⟩ | ⟨hk, c, hc, hcell⟩
  · exact wpAny_Name (wpAny_loadName_local I.ok.kind hk hn hm fin) hd
  · rcases hk with hk | hk
    · exact wpAny_Name (wpAny_loadName_cell I.ok.kind hk hc hcell fin) hd
    · exact wpAny_Name (wpAny_loadName_free I.ok.kind hk hc hcell fin hcd) hd
theorem pe_int {i j pos} : PE X (.Constant (.int i) j pos) (tC (.int i)) := fun _ _ _ H _ I h => wpAny_Constant_int ⟨.int i, H, I.tok _, ⟨_, rfl⟩, h⟩
theorem pe_bl {b j pos} : PE X (.Constant (.bool b) j pos) (tC (.bl b)) := fun _ _ _ H _ I h => Constant_bool ⟨.bl b, H, I, rfl, h⟩
theorem pe_non {j pos} : PE X (.Constant .none j pos) (tC .non) := fun _ _ _ H _ I h => Constant_none ⟨.non, H, I, rfl, h⟩
theorem pe_str {x j pos} : PE X (.Constant (.str x) j pos) (tC (.str x)) := fun _ _ _ H _ I h => Calls.Constant_str ⟨.str x, H, I.tok _, ⟨_, rfl⟩, h⟩
def Gl (X : Cx) (x : Str) : Prop := X.env.kindOf x = some .globalImplicit
theorem ld_glob {E : Value → Shared → Prop} {pins : List (Addr × Obj)} {s : Shared} {σ : St} {H : Hp} {x : Str} {u : Value} {pos : Pos} {Q : Value → Shared → Prop} (I : Inv X pins σ H s) (hg : Gl X x) (hm : X.mg x = some u) (h : Q u s)
    (hd : (x == ("__debug__" : Str)) = false := by decide) : wpAny (model X.prog X.w) X.A (eval (.Name x pos) X.env) Q E s :=
  Calls.Name_function_global I.ok.kind hg (Calls.loadGlobal_global (by rw [I.ok.glob]; exact I.mod.glob.keeps I.bk) hm h) hd
theorem ld_blt {E : Value → Shared → Prop} {pins : List (Addr × Obj)} {s : Shared} {σ : St} {H : Hp} {x : Str} {u : Value} {pos : Pos} {Q : Value → Shared → Prop} (I : Inv X pins σ H s) (hg : Gl X x) (hm : X.mg x = none) (hv : bootBuiltins x = some u) (h : Q u s)
    (hn : x ≠ "__name__" := by decide) (hd : (x == ("__debug__" : Str)) = false := by decide) : wpAny (model X.prog X.w) X.A (eval (.Name x pos) X.env) Q E s := by
  obtain ⟨mb, h1, h2⟩ := I.mod.blt
  exact Calls.Name_function_global I.ok.kind hg (Calls.loadGlobal_builtin (by rw [I.ok.glob]; exact I.mod.glob.keeps I.bk) hm (by rw [I.ok.blt]; exact h1.keeps I.bk) ((h2 x hn).trans hv) h) hd
theorem pe_glob {x : Str} {v : V} {u : Value} {pos : Pos} (hg : Gl X x) (hm : X.mg x = some u) (r : RelV v u) (hd : (x == ("__debug__" : Str)) = false := by decide) : PE X (.Name x pos) (tC v) :=
  fun _ _ _ H _ I h => ld_glob I hg hm ⟨v, H, I, r, h⟩ hd
variable {a b : Expr} {ta tb : TE} {pos : Pos}
variable {tA tB' : TT} {rest : List Expr}
def tAnd (t u : TT) : TT := fun σ H Q => t σ H fun c H1 => if c = true then u σ H1 Q else Q false H1
def tOr (t u : TT) : TT := fun σ H Q => t σ H fun c H1 => if c = true then Q true H1 else u σ H1 Q
def tNot (t : TT) : TT := fun σ H Q => t σ H fun c H1 => Q (!c) H1
theorem pw_and1 (ha : PT X a tA) : PW X (.BoolOp .And [a] pos) tA := by
  intro wh pins s σ H Q I h
  refine isTrue_and (thn (ha pins s σ H Q I h) fun c s1 e => ?_)
  cases c with
  | true => exact isTrue_and_nil e
  | false => exact e
theorem pw_or1 (ha : PT X a tA) : PW X (.BoolOp .Or [a] pos) tA := by
  intro wh pins s σ H Q I h
  refine isTrue_or (thn (ha pins s σ H Q I h) fun c s1 e => ?_)
  cases c with
  | false => exact isTrue_or_nil e
  | true => exact e
theorem pw_and (ha : PT X a tA) (hb : PW X (.BoolOp .And (b :: rest) pos) tB') : PW X (.BoolOp .And (a :: b :: rest) pos) (tAnd tA tB') := by
  intro wh pins s σ H Q I h
  refine isTrue_and (thn (ha pins s σ H _ I h) fun c s1 ⟨H1, I1, q1⟩ => ?_)
  cases c with
  | true => exact hb wh pins s1 σ H1 Q I1 q1
  | false => exact ⟨H1, I1, q1⟩
theorem pw_or (ha : PT X a tA) (hb : PW X (.BoolOp .Or (b :: rest) pos) tB') : PW X (.BoolOp .Or (a :: b :: rest) pos) (tOr tA tB') := by
  intro wh pins s σ H Q I h
  refine isTrue_or (thn (ha pins s σ H _ I h) fun c s1 ⟨H1, I1, q1⟩ => ?_)
  cases c with
  | true => exact ⟨H1, I1, q1⟩
  | false => exact hb wh pins s1 σ H1 Q I1 q1
theorem pt_not (ha : PT X a tA) : PT X (.UnaryOp .Not a pos) (tNot tA) := by
  intro pins s σ H Q I h
  exact isTrue_not (ha pins s σ H (fun c H1 => Q (!c) H1) I h)
def tAndV (ta tb : TE) : TE := fun σ H Q => ta σ H fun x H1 => ∃ c, x = .bl c ∧ if c = true then tb σ H1 Q else Q (.bl false) H1
def tOrV (ta tb : TE) : TE := fun σ H Q => ta σ H fun x H1 => ∃ c, x = .bl c ∧ if c = true then Q (.bl true) H1 else tb σ H1 Q
theorem pe_one {op} {t : TE} (h : PE X a t) : PE X (.BoolOp op [a] pos) t := fun pins s σ H Q I hw => BoolOp_one (h pins s σ H Q I hw)
theorem pe_and (ha : PE X a ta) (hb : PE X (.BoolOp .And (b :: rest) pos) tb) : PE X (.BoolOp .And (a :: b :: rest) pos) (tAndV ta tb) := by
  intro pins s σ H Q I h
  refine BoolOp_and (thn (ha pins s σ H _ I h) fun v s1 ⟨x, H1, I1, r1, q1⟩ => ?_)
  obtain ⟨c, rfl, q1⟩ := q1
  cases r1
  refine wpAny_truthy_bool ?_
  cases c with
  | true => exact hb pins s1 σ H1 Q I1 q1
  | false => exact ⟨.bl false, H1, I1, rfl, q1⟩
theorem pe_or (ha : PE X a ta) (hb : PE X (.BoolOp .Or (b :: rest) pos) tb) : PE X (.BoolOp .Or (a :: b :: rest) pos) (tOrV ta tb) := by
  intro pins s σ H Q I h
  refine BoolOp_or (thn (ha pins s σ H _ I h) fun v s1 ⟨x, H1, I1, r1, q1⟩ => ?_)
  obtain ⟨c, rfl, q1⟩ := q1
  cases r1
  refine wpAny_truthy_bool ?_
  cases c with
  | false => exact hb pins s1 σ H1 Q I1 q1
  | true => exact ⟨.bl true, H1, I1, rfl, q1⟩
def tIf (t : TT) (ta tb : TE) : TE := fun σ H Q => t σ H fun c H1 => if c = true then ta σ H1 Q else tb σ H1 Q
end
end L2
namespace L2
open PySem PySem.Spec PyProof.Rows
def SqL (K : PySem.W.Frag) (H : Hp) (a : Addr) (xs : List V) : Prop :=
  Rd H a (.lst xs) ∨
    ∃ (o : Obj) (its : Array Value) (n : Nat), K.lookup a = some o ∧ o.cls = .type "list" ∧ o.dict = none ∧ o.data = .seq its n ∧ its.size ≤ sizeLine ∧ Vals xs its.toList
def SqT (K : PySem.W.Frag) (H : Hp) (a : Addr) (xs : List V) : Prop :=
  Rd H a (.tup xs) ∨
    ∃ (o : Obj) (its : Array Value) (n : Nat), K.lookup a = some o ∧ o.cls = .type "tuple" ∧ o.data = .seq its n ∧ its.size ≤ sizeLine ∧ Vals xs its.toList
def absV : Value → Option V
  | .none => some .non
  | .bool b => some (.bl b)
  | .int i _ => some (.int i)
  | .str x _ => some (.str x)
  | .bytes b _ => some (.byt b)
  | .float b _ => some (.flt b)
  | .ref a => some (.ref a)
  | .type n => some (.ty n)
  | _ => none
theorem RelV.abs {x : V} {u : Value} (r : RelV x u) : absV u = some x := by
  cases x with
  | non => cases r; rfl
  | bl _ => cases r; rfl
  | int _ => obtain ⟨t, rfl⟩ := r; rfl
  | str _ => obtain ⟨t, rfl⟩ := r; rfl
  | byt _ => obtain ⟨t, rfl⟩ := r; rfl
  | flt _ => obtain ⟨t, rfl⟩ := r; rfl
  | ref _ => cases r; rfl
  | ty _ => cases r; rfl
theorem RelV.inj {x y : V} {u : Value} (r : RelV x u) (q : RelV y u) : x = y := Option.some.inj (r.abs.symm.trans q.abs)
theorem Vals.inj : ∀ {xs ys : List V} {us : List Value}, Vals xs us → Vals ys us → xs = ys
  | _, _, _, .nil, .nil => rfl
  | _, _, _, .cons r t, .cons r' t' => by rw [r.inj r', Vals.inj t t']
section
variable {X : Cx} {pins : List (Addr × Obj)} {σ : St} {H : Hp} {s : Shared} {a : Addr} {xs ys : List V}
theorem SqL.of {K : PySem.W.Frag} (h : H a = some (.lst xs)) : SqL K H a xs := .inl (.inl h)
theorem SqT.of {K : PySem.W.Frag} (h : H a = some (.tup xs)) : SqT K H a xs := .inl (.inl h)
theorem Inv.list (I : Inv X pins σ H s) (h : SqL X.K H a xs) : ∃ its : List Value, Vals xs its ∧ PlainL s.heap a its.toArray ∧ xs.length ≤ sizeLine := by
  rcases h with h | ⟨o, its, n, hk, hc, hd, hs, hz, r⟩
  · obtain ⟨z, its, n, r, e⟩ := h.ok I.hok
    exact ⟨its, r, ⟨_, n, e, rfl, rfl, rfl⟩, z⟩
  · refine ⟨its.toList, r, ⟨o, n, I.kIn a o hk, hc, hd, by simpa using hs⟩, ?_⟩
    have e := r.length
    simp only [Array.length_toList] at e
    omega
theorem Inv.tuple (I : Inv X pins σ H s) (h : SqT X.K H a xs) : ∃ its : List Value, Vals xs its ∧ IsTup s.heap a its.toArray ∧ xs.length ≤ sizeLine := by
  rcases h with h | ⟨o, its, n, hk, hc, hs, hz, r⟩
  · obtain ⟨z, its, r, p⟩ := h.ok I.hok
    exact ⟨its, r, p, z⟩
  · refine ⟨its.toList, r, ⟨o, I.kIn a o hk, hc, n, by simpa using hs⟩, ?_⟩
    have e := r.length
    simp only [Array.length_toList] at e
    omega
theorem Inv.list_inj (I : Inv X pins σ H s) (h : SqL X.K H a xs) (h' : SqL X.K H a ys) : xs = ys := by
  obtain ⟨its, r, ⟨o, n, e, _, _, d⟩, _⟩ := I.list h
  obtain ⟨its', r', ⟨o', n', e', _, _, d'⟩, _⟩ := I.list h'
  rw [e] at e'; cases e'
  rw [d] at d'
  injection d' with d1 _
  have : its = its' := by simpa using congrArg Array.toList d1
  subst this
  exact r.inj r'
theorem Inv.tuple_inj (I : Inv X pins σ H s) (h : SqT X.K H a xs) (h' : SqT X.K H a ys) : xs = ys := by
  obtain ⟨its, r, ⟨o, e, _, n, d⟩, _⟩ := I.tuple h
  obtain ⟨its', r', ⟨o', e', _, n', d'⟩, _⟩ := I.tuple h'
  rw [e] at e'; cases e'
  rw [d] at d'
  injection d' with d1 _
  have : its = its' := by simpa using congrArg Array.toList d1
  subst this
  exact r.inj r'
end
abbrev Cx.wish (X : Cx) (E : Value → Shared → Prop) : Cx := { X with xe := E }
abbrev Cx.nox (X : Cx) : Cx := X.wish fun _ _ => False
theorem Cx.Ok.wish {X : Cx} (ok : X.Ok) (E : Value → Shared → Prop) : (X.wish E).Ok :=
  ⟨ok.mod, ok.kind, ok.glob, ok.blt, ok.above, ok.inj, ok.has, ok.cab, ok.hd, ok.frames, ok.stk, ok.exf, ok.bs, ok.bsz, ok.noex, ok.exfs, ok.funs, ok.frf⟩
theorem Cx.Ok.unwish {X : Cx} {E : Value → Shared → Prop} (ok : (X.wish E).Ok) : X.Ok :=
  ⟨ok.mod, ok.kind, ok.glob, ok.blt, ok.above, ok.inj, ok.has, ok.cab, ok.hd, ok.frames, ok.stk, ok.exf, ok.bs, ok.bsz, ok.noex, ok.exfs, ok.funs, ok.frf⟩
section
variable {X : Cx} {pins : List (Addr × Obj)} {σ : St} {H : Hp} {s : Shared} {E : Value → Shared → Prop}
theorem Inv.wish (I : Inv X pins σ H s) (E : Value → Shared → Prop) : Inv (X.wish E) pins σ H s := ⟨I.ok.wish E, I.os, I.bare, I.base, I.loc, I.cell, I.free, I.freeC, I.pin, I.hok, I.len⟩
theorem Inv.unwish (I : Inv (X.wish E) pins σ H s) : Inv X pins σ H s := ⟨I.ok.unwish, I.os, I.bare, I.base, I.loc, I.cell, I.free, I.freeC, I.pin, I.hok, I.len⟩
theorem SP.unwish {D : Ends} {f : Flow} {s' : Shared} (h : SP (X.wish E) pins D f s') : SP X pins D f s' := by
  cases f with
  | next => obtain ⟨σ', H', I, q⟩ := h; exact ⟨σ', H', I.unwish, q⟩
  | brk => obtain ⟨σ', H', I, q⟩ := h; exact ⟨σ', H', I.unwish, q⟩
  | cont => obtain ⟨σ', H', I, q⟩ := h; exact ⟨σ', H', I.unwish, q⟩
  | ret u => obtain ⟨v, σ', H', I, r, q⟩ := h; exact ⟨v, σ', H', I.unwish, r, q⟩
theorem PSs.nox {st : List Stmt} {t : TS} (h : PSs X.nox st t) : PSs X st t := fun pins s σ H D I hw =>
  wpAny_mono (h pins s σ H D (I.wish _) hw) (fun _ _ q => q.unwish) fun _ _ z => False.elim z
end
section
variable {X : Cx} {st : Stmt} {rest : List Stmt} {t u : TS} {e : Expr} {te : TE} {pos : Pos}
def tNext : TS := fun D σ H => D.nx σ H
def tSeq (t u : TS) : TS := fun D σ H => t { D with nx := u D } σ H
theorem pss_nil : PSs X [] tNext := fun _ _ σ H _ I h => wpAny_execs_nil ⟨σ, H, I, h⟩
theorem pss_cons (h1 : PS X st t) (h2 : PSs X rest u) : PSs X (st :: rest) (tSeq t u) := by
  intro pins s σ H D I h
  refine wpAny_execs_cons (thn (h1 pins s σ H { D with nx := u D } I h) fun f s1 q => ?_)
  cases f with
  | next =>
    obtain ⟨σ', H', I', q⟩ := q
    exact h2 pins s1 σ' H' D I' q
  | ret v => exact q
  | brk => exact q
  | cont => exact q
theorem pss_one (h1 : PS X st t) : PSs X [st] t := by
  intro pins s σ H D I h
  refine wpAny_execs_cons (thn (h1 pins s σ H D I h) fun f s1 q => ?_)
  cases f with
  | next => exact wpAny_execs_nil q
  | ret v => exact q
  | brk => exact q
  | cont => exact q
theorem Inv.quiet {pins : List (Addr × Obj)} {σ : St} {H : Hp} {s : Shared} (I : Inv X pins σ H s) : interactive X.env = false := by simp [interactive, I.ok.kind]
def tDrop (te : TE) : TS := fun D σ H => te σ H fun _ H1 => D.nx σ H1
theorem ps_expr (he : PE X e te) (hs : swapsWith e none pos.line X.env = pure false := by rfl) : PS X (.Expr e pos) (tDrop te) := by
  intro pins s σ H D I h
  exact wpAny_Expr_any (thn (he pins s σ H _ I h) fun v s1 ⟨x, H1, I1, r1, q1⟩ => ⟨σ, H1, I1, q1⟩) I.quiet hs
def tRet (te : TE) : TS := fun D σ H => te σ H D.rt
theorem ps_ret (he : PE X e te) : PS X (.Return (some e) pos) (tRet te) := by
  intro pins s σ H D I h
  exact wpAny_Return_some (thn (he pins s σ H _ I h) fun v s1 ⟨x, H1, I1, r1, q1⟩ => ⟨x, σ, H1, I1, r1, q1⟩)
def tIfS (c : TT) (t u : TS) : TS := fun D σ H => c σ H fun b H1 => if b = true then t D σ H1 else u D σ H1
theorem ps_if {c : Expr} {a b : List Stmt} {tc : TT} (hc : PT X c tc) (ha : PSs X a t) (hb : PSs X b u) : PS X (.If c a b pos) (tIfS tc t u) := by
  intro pins s σ H D I h
  refine wpAny_If (thn (hc pins s σ H _ I h) fun d s1 ⟨H1, I1, q1⟩ => ?_)
  cases d with
  | true => exact ha pins s1 σ H1 D I1 q1
  | false => exact hb pins s1 σ H1 D I1 q1
end
abbrev TG := V → St → Hp → (St → Hp → Prop) → Prop
abbrev TGs := List V → St → Hp → (St → Hp → Prop) → Prop
def PG (X : Cx) (target : Expr) (t : TG) : Prop :=
  ∀ (pins : List (Addr × Obj)) (s : Shared) (σ : St) (H : Hp) (v : V) (u : Value) (Q : St → Hp → Prop), Inv X pins σ H s → RelV v u → t v σ H Q →
    wpAny (model X.prog X.w) X.A (assign target X.env u) (fun _ s' => ∃ σ' H', Inv X pins σ' H' s' ∧ Q σ' H') X.xe s
def PGs (X : Cx) (ts : List Expr) (t : TGs) : Prop :=
  ∀ (pins : List (Addr × Obj)) (s : Shared) (σ : St) (H : Hp) (vs : List V) (us : List Value) (Q : St → Hp → Prop), Inv X pins σ H s → Vals vs us → t vs σ H Q →
    wpAny (model X.prog X.w) X.A (assignInOrder ((assignEach ts X.env).map (·.2)) us) (fun _ s' => ∃ σ' H', Inv X pins σ' H' s' ∧ Q σ' H') X.xe s
abbrev TSet := V → V → V → Hp → (Hp → Prop) → Prop
def PSet (X : Cx) (t : TSet) : Prop :=
  ∀ (pins : List (Addr × Obj)) (s : Shared) (σ : St) (H : Hp) (o i v : V) (ov iv u : Value) (Q : Hp → Prop), Inv X pins σ H s → RelV o ov → RelV i iv → RelV v u → t o i v H Q →
    wpAny (model X.prog X.w) X.A (setItem ov iv u) (fun _ s' => ∃ H', Inv X pins σ H' s' ∧ Q H') X.xe s
abbrev TIp := V → V → Hp → VK → Prop
def PIp (X : Cx) (op : Operator) (t : TIp) : Prop :=
  ∀ (pins : List (Addr × Obj)) (s : Shared) (σ : St) (H : Hp) (x y : V) (v u : Value) (Q : VK), Inv X pins σ H s → RelV x v → RelV y u → t x y H Q →
    wpAny (model X.prog X.w) X.A (inplaceOp op v u) (EP X pins σ Q) X.xe s
section
variable {X : Cx} {pos : Pos}
def gName (i : Nat) : TG := fun v σ H Q => Q (σ.set i (some v)) H
theorem pg_name {i : Nat} {x : Str} (hN : X.N.Nodup) (hi : X.N[i]? = some x) (hx : Loc X.env.scope x) (hf : X.fn x = true ∨ X.env.scope.names.lookup x = some .local := by first | exact .inl rfl | exact .inr rfl | assumption) : PG X (.Name x pos) (gName i) := by
  intro pins s σ H v u Q I r h
  exact wpAny_assign_Name (store_ok I hN hi hx r (fun s' I' => ⟨_, H, I', h⟩) hf)
def gNil : TGs := fun vs σ H Q => vs = [] ∧ Q σ H
def gCons (t : TG) (u : TGs) : TGs := fun vs σ H Q => ∃ v r, vs = v :: r ∧ t v σ H fun σ' H' => u r σ' H' Q
theorem pgs_nil : PGs X [] gNil := by
  intro pins s σ H vs us Q I r h
  obtain ⟨e, h⟩ := h
  subst e
  cases r
  exact assignInOrder_nil ⟨σ, H, I, h⟩
theorem pgs_cons {e : Expr} {es : List Expr} {t : TG} {u : TGs} (h1 : PG X e t) (h2 : PGs X es u)
    (hs : (assignEach (e :: es) X.env).map (·.2) = assign e X.env :: (assignEach es X.env).map (·.2) := by rfl) : PGs X (e :: es) (gCons t u) := by
  intro pins s σ H vs us Q I r h
  obtain ⟨v, vr, e1, h⟩ := h
  subst e1
  cases r with
  | cons r rr =>
    rw [hs]
    refine assignInOrder_cons (thn (h1 pins s σ H _ _ _ I r h) fun _ s1 ⟨σ1, H1, I1, q1⟩ => ?_)
    exact h2 pins s1 σ1 H1 _ _ Q I1 rr q1
def gTup (K : PySem.W.Frag) (n : Nat) (t : TGs) : TG := fun v σ H Q => ∃ a xs, v = .ref a ∧ SqT K H a xs ∧ xs.length = n ∧ t xs σ H Q
theorem pg_tup {es : List Expr} {k : Nat} {t : TGs} {n : Nat} (hc : X.calm = true) (h : PGs X es t)
    (hn : (assignEach es X.env).length = n := by rfl) (hst : (assignEach es X.env).findIdx? (·.1) = none := by rfl) : PG X (.Tuple es k pos) (gTup X.K n t) := by
  intro pins s σ H v u Q I r hw
  obtain ⟨a, xs, e1, hq, hl, hw⟩ := hw
  subst e1
  cases r
  obtain ⟨its, rv, ht, hz⟩ := I.tuple hq
  refine assign_Tuple_tuple (I.ok.hd hc) ht (by simp [hn, ← hl, rv.length]) hst fun h' hx => ?_
  have I1 : Inv X pins σ H { s with heap := h' } := I.kept (t' := s.toks) fun b o e => hx b o (Nat.ne_of_lt (Heap.lt_size e)) e
  exact h pins _ σ H xs _ Q I1 (by simpa using rv) hw
def gSub (to ti : TE) (t : TSet) : TG := fun v σ H Q => to σ H fun o H1 => ti σ H1 fun i H2 => t o i v H2 fun H3 => Q σ H3
theorem pg_sub {o i : Expr} {to ti : TE} {t : TSet} (ho : PE X o to) (hi : PE X i ti) (hs : PSet X t)
    (ha : ∀ v, assign (.Subscript o i pos) X.env v = (do
      let ov ← holding [v] (eval o X.env)
      let iv ← holding [v, ov] (eval i X.env)
      standAt pos
      holding [v, ov, iv] (setItem ov iv v)
      release [v, ov, iv] []) := by intro _; rfl) : PG X (.Subscript o i pos) (gSub to ti t) := by
  intro pins s σ H v u Q I r h
  rw [ha]
  refine wpAny_bind (wpAny_holding (thn (ho pins s σ H _ I h) fun ov s1 ⟨x, H1, I1, r1, q1⟩ => ?_))
  refine wpAny_bind (wpAny_holding (thn (hi pins s1 σ H1 _ I1 q1) fun iv s2 ⟨y, H2, I2, r2, q2⟩ => ?_))
  refine wpAny_bind (wpAny_standAt (wpAny_bind (wpAny_holding (thn (hs pins s2 σ H2 x y v ov iv u _ I2 r1 r2 r q2) fun _ s3 ⟨H3, I3, q3⟩ => ?_))))
  exact wpAny_release ⟨σ, H3, I3, q3⟩
def tAsg (te : TE) (g : TG) : TS := fun D σ H => te σ H fun x H1 => g x σ H1 D.nx
theorem ps_asg {tg e : Expr} {te : TE} {g : TG} (he : PE X e te) (hg : PG X tg g) (hs : swapsWithSole [tg] e pos.line X.env = pure false := by rfl) (hw : swappedStores [tg] e X.env = pure none := by rfl)
    (h1 : (assignEach [tg] X.env).map (·.2) = [assign tg X.env] := by rfl) : PS X (.Assign [tg] e pos) (tAsg te g) := by
  intro pins s σ H D I h
  refine wpAny_Assign_stores (thn (he pins s σ H _ I h) fun v s1 ⟨x, H1, I1, r1, q1⟩ => ?_) hs hw
  rw [h1]
  exact thn (hg pins s1 σ H1 x v _ I1 r1 q1) fun _ s2 q => q
theorem ps_set {i : Nat} {x : Str} {e : Expr} {te : TE} {pos' : Pos} (hN : X.N.Nodup) (hi : X.N[i]? = some x) (hx : Loc X.env.scope x) (he : PE X e te) (hs : swapsWith e (some (.Name x pos')) pos.line X.env = pure false := by rfl) (hf : X.fn x = true ∨ X.env.scope.names.lookup x = some .local := by first | exact .inl rfl | exact .inr rfl | assumption) :
    PS X (.Assign [.Name x pos'] e pos) (tAsg te (gName i)) := by
  intro pins s σ H D I h
  refine wpAny_Assign_Name (thn (he pins s σ H _ I h) fun v s1 ⟨y, H1, I1, r1, q1⟩ => ?_) hs
  exact store_ok I1 hN hi hx r1 (fun s2 I2 => ⟨_, H1, I2, q1⟩) hf
def tAug (i : Nat) (te : TE) (ti : TIp) : TS := fun D σ H => ∃ x, σ[i]? = some (some x) ∧ te σ H fun y H1 => ti x y H1 fun z H2 => D.nx (σ.set i (some z)) H2
theorem ps_aug {i : Nat} {x : Str} {e : Expr} {te : TE} {op : Operator} {ti : TIp} {pos' : Pos} (hN : X.N.Nodup) (hi : X.N[i]? = some x) (hx : Loc X.env.scope x) (he : PE X e te) (ho : PIp X op ti) (hf : X.fn x = true ∨ X.env.scope.names.lookup x = some .local := by first | exact .inl rfl | exact .inr rfl | assumption) :
    PS X (.AugAssign (.Name x pos') op e pos) (tAug i te ti) := by
  intro pins s σ H D I h
  obtain ⟨v, e1, h⟩ := h
  obtain ⟨m, hn, hl⟩ := I.loc
  have vis : Vis X.env.scope x := by rcases hx with k | k; exact .inl k; exact .inr (.inl k)
  obtain ⟨u, r, l⟩ := hl i x v hi e1 vis
  refine wpAny_AugAssign_Name ?_
  have go : wpAny (model X.prog X.w) X.A (eval e X.env) (fun w s₂ => wpAny (model X.prog X.w) X.A (inplaceOp op u w) (fun r s₃ => wpAny (model X.prog X.w) X.A (storeName X.env x r) (fun _ => SP X pins D .next) X.xe s₃) X.xe s₂) X.xe s := by
    refine thn (he pins s σ H _ I h) fun w s1 ⟨y, H1, I1, r1, q1⟩ => ?_
    refine thn (ho pins s1 σ H1 v y u w _ I1 r r1 q1) fun z s2 ⟨zv, H2, I2, r2, q2⟩ => ?_
    exact store_ok I2 hN hi hx r2 (fun s3 I3 => ⟨_, H2, I3, q2⟩) hf
  rcases l with ⟨hk, hm⟩ | ⟨hk, c, hc, hcell⟩
  · exact wpAny_loadName_local I.ok.kind hk hn hm go
  · rcases hk with hk | hk
    · exact wpAny_loadName_cell I.ok.kind hk hc hcell go
    · rcases hx with k | k
      · have : X.env.scope.names.lookup x = some .free := hk
        rw [k] at this; cases this
      · have : X.env.scope.names.lookup x = some .free := hk
        rw [k] at this; cases this
def ipI (f : Int → Int → Int) : TIp := fun x y H Q => ∃ i j, x = .int i ∧ y = .int j ∧ Q (.int (f i j)) H
theorem ip_add : PIp X .Add (ipI fun i j => i + j) := by
  intro pins s σ H x y v u Q I r1 r2 h
  obtain ⟨i, j, e1, e2, q⟩ := h
  subst e1; subst e2
  obtain ⟨t, rfl⟩ := r1
  obtain ⟨t', rfl⟩ := r2
  exact iadd_int ⟨.int _, H, I.tok _, ⟨_, rfl⟩, q⟩
theorem ip_sub : PIp X .Sub (ipI fun i j => i - j) := by
  intro pins s σ H x y v u Q I r1 r2 h
  obtain ⟨i, j, e1, e2, q⟩ := h
  subst e1; subst e2
  obtain ⟨t, rfl⟩ := r1
  obtain ⟨t', rfl⟩ := r2
  exact isub_int ⟨.int _, H, I.tok _, ⟨_, rfl⟩, q⟩
end
section
variable {X : Cx} {pos : Pos}
def tWhile (c : TT) (tb : TS) : TS := fun D σ H => ∃ W : Nat → St → Hp → Prop, (∃ m, W m σ H) ∧ ∀ m σ H, W m σ H →
  c σ H fun b H1 => if b = true then ∃ N : St → Hp → Prop, (∀ σ' H', N σ' H' → ∃ m', m' < m ∧ W m' σ' H') ∧ tb { D with nx := N, ct := N, bk := D.nx } σ H1 else D.nx σ H1
theorem ps_while {c : Expr} {body : List Stmt} {tc : TT} {tb : TS} (hp : PassesOwn (model X.prog X.w) X.A X.env X.xe) (hc : PT X c tc) (hb : PSs X body tb) : PS X (.While c body [] pos) (tWhile tc tb) := by
  intro pins s σ H D I h
  obtain ⟨W, ⟨m0, w0⟩, turn⟩ := h
  refine wpAny_While (codeAny_whileLoop (fun n s' => ∃ σ' H', Inv X pins σ' H' s' ∧ W n σ' H') ?_ m0 ⟨σ, H, I, w0⟩)
  rintro n s1 ⟨σ1, H1, I1, w1⟩
  refine wpAny_passesOwn hp (thn (hc pins s1 σ1 H1 _ I1 (turn n σ1 H1 w1)) fun b s2 ⟨H2, I2, q2⟩ => ?_)
  cases b with
  | true =>
    obtain ⟨N, hN, q2⟩ := q2
    rw [if_pos rfl]
    refine wpAny_passesOwn hp (thn (hb pins s2 σ1 H2 _ I2 q2) fun f s3 q3 => ?_)
    cases f with
    | next =>
      obtain ⟨σ3, H3, I3, n3⟩ := q3
      obtain ⟨m', hm, w3⟩ := hN σ3 H3 n3
      exact ⟨m', hm, σ3, H3, I3, w3⟩
    | cont =>
      obtain ⟨σ3, H3, I3, n3⟩ := q3
      obtain ⟨m', hm, w3⟩ := hN σ3 H3 n3
      exact ⟨m', hm, σ3, H3, I3, w3⟩
    | brk => exact q3
    | ret v => exact q3
  | false =>
    rw [if_neg Bool.false_ne_true]
    exact wpAny_execs_nil ⟨σ1, H2, I2, q2⟩
end
structure It where
  go : Nat → Hp → Prop
  yld : Nat → Hp → V → Hp → Prop
  stop : Nat → Hp → Prop
def FpOk (X : Cx) (pins : List (Addr × Obj)) (H : Hp) (b : Addr) : Prop :=
  H b = none ∧ b ≠ X.env.locals ∧ b ∉ X.fs ∧ (b ∈ X.ex ∨ X.s₀.heap.objs.size ≤ b) ∧ (∀ x c, X.env.cells.lookup x = some c → c ≠ b) ∧ ∀ p ∈ X.pn ++ pins, p.1 ≠ b
theorem Inv.fpOk {X : Cx} {pins : List (Addr × Obj)} {σ : St} {H H' : Hp} {s : Shared} {b : Addr} (I : Inv X pins σ H s) (hb : s.heap.objs.size ≤ b) (hn : H' b = none) : FpOk X pins H' b := by
  refine ⟨hn, Nat.ne_of_gt (Nat.lt_of_lt_of_le I.lt hb), I.nofs hb, .inr (Nat.le_trans I.sz hb), fun x c e z => ?_, fun p hp z => ?_⟩
  · obtain ⟨v, q⟩ := I.cell x c e
    exact absurd (Nat.lt_of_lt_of_le q.lt (by rw [z]; exact hb)) (Nat.lt_irrefl _)
  · exact absurd (Nat.lt_of_lt_of_le (Heap.lt_size (I.pin p hp).1) (by rw [z]; exact hb)) (Nat.lt_irrefl _)
structure Turn (P : Program) (w : World) (K : PySem.W.Frag) (tg : Expr) (J : It) (fp : List Addr) (it : Addr) (tn : Nat → Heap → Prop) : Prop where
  mem : it ∈ fp
  obj : ∀ i h, tn i h → ∀ b ∈ fp, ∃ o, h.get? b = some o ∧ ∀ v, o.data ≠ .cell v
  keep : ∀ i h h', tn i h → (∀ b ∈ fp, ∀ o, h.get? b = some o → h'.get? b = some o) → tn i h'
  item : ∀ (X : Cx), X.prog = P → X.w = w → X.K = K → X.calm = true → ∀ (i : Nat) (pins : List (Addr × Obj)) (s : Shared) (σ : St) (H : Hp) (E : Value → Shared → Prop), Inv X pins σ H s → (∀ b ∈ fp, FpOk X pins H b) → tn i s.heap → J.go i H →
    wpAny (model P w) X.A (pyNext (.ref it)) (fun r s1 => ∃ u, r = some u ∧
      wpAny (model P w) X.A (letOwnedTupleGo tg (.ref it) u) (fun _ s2 => ∃ x H', Inv X pins σ H' s2 ∧ RelV x u ∧ J.yld i H x H' ∧ tn (i + 1) s2.heap ∧ ∀ b ∈ fp, H' b = none) E s1) E s
  done : ∀ (X : Cx), X.prog = P → X.w = w → X.K = K → X.calm = true → ∀ (i : Nat) (pins : List (Addr × Obj)) (s : Shared) (σ : St) (H : Hp) (E : Value → Shared → Prop), Inv X pins σ H s → (∀ b ∈ fp, FpOk X pins H b) → tn i s.heap → J.stop i H →
    wpAny (model P w) X.A (pyNext (.ref it)) (fun r s1 => r = none ∧ Inv X pins σ H s1) E s
  self : ∀ (A : Around) (i : Nat) (s : Shared) (Q : Value → Shared → Prop) (E : Value → Shared → Prop), tn i s.heap → Q (.ref it) s → wpAny (model P w) A (pyIter (.ref it)) Q E s
abbrev TI := St → Hp → (It → Hp → Prop) → Prop
def PIE (X : Cx) (pins : List (Addr × Obj)) (σ : St) (tg : Expr) (R : It → Hp → Prop) (itv : Value) (s2 : Shared) : Prop :=
  ∃ (it : Addr) (fp : List Addr) (tn : Nat → Heap → Prop) (J : It) (H' : Hp), itv = .ref it ∧ Inv X pins σ H' s2 ∧ Turn X.prog X.w X.K tg J fp it tn ∧ tn 0 s2.heap ∧ (∀ b ∈ fp, FpOk X pins H' b) ∧ R J H'
def PI (X : Cx) (tg iter : Expr) (wi : TI) : Prop :=
  ∀ (pins : List (Addr × Obj)) (s : Shared) (σ : St) (H : Hp) (R : It → Hp → Prop), Inv X pins σ H s → wi σ H R →
    wpAny (model X.prog X.w) X.A (eval iter X.env) (fun v s1 => wpAny (model X.prog X.w) X.A (pyIter v) (PIE X pins σ tg R) X.xe s1) X.xe s
theorem go_of {M : Model} {A : Around} {E : Value → Shared → Prop} {s : Shared} {tg : Expr} {it : Addr} {u : Value} {o : Obj} {n : String} {vs : Array Value} {Q : Unit → Shared → Prop} (ho : s.heap.get? it = some o) (hc : o.cls = .type n) (hd : o.data = .fields vs)
    (hn : ["enumerate", "zip", "dict_itemiterator", "dict_reverseitemiterator", "odict_iterator", "itertools.zip_longest", "itertools.pairwise"].contains n = false) (hQ : Q () s) : wpAny M A (letOwnedTupleGo tg (.ref it) u) Q E s := by
  unfold letOwnedTupleGo
  cases tg <;> first
    | exact wpAny_pure hQ
    | (cases u <;> first
        | exact wpAny_pure hQ
        | (refine wpAny_bind (wpAny_load ho ?_)
           rw [hc, hd]
           show wpAny M A (if (["enumerate", "zip", "dict_itemiterator", "dict_reverseitemiterator", "odict_iterator", "itertools.zip_longest", "itertools.pairwise"].contains n && vs[0]? == some (rawInt _)) = true then _ else _) Q E s
           rw [if_neg (by intro h; rw [hn, Bool.false_and] at h; cases h)]
           exact wpAny_pure hQ))
def Itl (K : PySem.W.Frag) (a : Addr) : It :=
  ⟨fun i H => ∃ xs x, SqL K H a xs ∧ xs[i]? = some x, fun i H x H' => H' = H ∧ ∀ xs, SqL K H a xs → xs[i]? = some x, fun i H => ∃ xs, SqL K H a xs ∧ xs.length ≤ i⟩
def Itt (K : PySem.W.Frag) (a : Addr) : It :=
  ⟨fun i H => ∃ xs x, SqT K H a xs ∧ xs[i]? = some x, fun i H x H' => H' = H ∧ ∀ xs, SqT K H a xs → xs[i]? = some x, fun i H => ∃ xs, SqT K H a xs ∧ xs.length ≤ i⟩
def Itr (lo : Int) (n : Nat) : It := ⟨fun i _ => i < n, fun i H x H' => H' = H ∧ x = .int (lo + i), fun i _ => n ≤ i⟩
theorem turn_list {P : Program} {w : World} {K : PySem.W.Frag} {tg : Expr} (a it : Addr) : Turn P w K tg (Itl K a) [it] it (fun i h => h.IsListIter it a i) where
  mem := by simp
  obj := fun i h st b hb => by
    have e : b = it := by simpa using hb
    subst e
    obtain ⟨o, e, c, d⟩ := st
    exact ⟨o, e, fun v z => by rw [d] at z; cases z⟩
  keep := fun i h h' st k => st.at fun o e => k it (by simp) o e
  item := by
    intro X hP hw hK hc i pins s σ H E I hf st hg
    subst hP hw hK
    obtain ⟨xs, x, hq, hx⟩ := hg
    obtain ⟨its, rv, p, hz⟩ := I.list hq
    obtain ⟨u, hu, ru⟩ := rv.get hx
    obtain ⟨f0, f1, f2, f3, f4, f5⟩ := hf it (by simp)
    refine wpAny_pyNext_list_item st p.isList (x := u) (by simpa using hu) fun h' st' sb => ?_
    have I1 : Inv X pins σ H { s with heap := h' } := I.turned (t' := s.toks) (fun b o hb e => (sb.2 b hb).trans e) f0 f1 f3 f4 f5
    obtain ⟨o, e, c, d⟩ := id st'
    exact ⟨u, rfl, go_of (s := { s with heap := h' }) e c d (by decide) ⟨x, H, I1, ru, ⟨rfl, fun ys hy => by rw [I.list_inj hy hq]; exact hx⟩, st', fun b hb => (hf b hb).1⟩⟩
  done := by
    intro X hP hw hK hc i pins s σ H E I hf st hg
    subst hP hw hK
    obtain ⟨xs, hq, hx⟩ := hg
    obtain ⟨its, rv, p, hz⟩ := I.list hq
    obtain ⟨f0, f1, f2, f3, f4, f5⟩ := hf it (by simp)
    have hl := rv.length
    exact wpAny_pyNext_list_end (I.ok.hd hc) st p.isList (by simp; omega) fun h' eb => ⟨rfl, I.turned (t' := s.toks) (fun b o hb e => eb b o hb e) f0 f1 f3 f4 f5⟩
  self := fun _ _ _ _ _ st h => wpAny_pyIter_listiter st h
theorem turn_tuple {P : Program} {w : World} {K : PySem.W.Frag} {tg : Expr} (a it : Addr) : Turn P w K tg (Itt K a) [it] it (fun i h => h.IsTupleIter it a i) where
  mem := by simp
  obj := fun i h st b hb => by
    have e : b = it := by simpa using hb
    subst e
    obtain ⟨o, e, c, d⟩ := st
    exact ⟨o, e, fun v z => by rw [d] at z; cases z⟩
  keep := fun i h h' st k => st.at fun o e => k it (by simp) o e
  item := by
    intro X hP hw hK hc i pins s σ H E I hf st hg
    subst hP hw hK
    obtain ⟨xs, x, hq, hx⟩ := hg
    obtain ⟨its, rv, p, hz⟩ := I.tuple hq
    obtain ⟨u, hu, ru⟩ := rv.get hx
    obtain ⟨f0, f1, f2, f3, f4, f5⟩ := hf it (by simp)
    refine wpAny_pyNext_tuple_item st (show s.heap.IsTuple a its.toArray from p) (x := u) (by simpa using hu) fun h' st' sb => ?_
    have I1 : Inv X pins σ H { s with heap := h' } := I.turned (t' := s.toks) (fun b o hb e => (sb.2 b hb).trans e) f0 f1 f3 f4 f5
    obtain ⟨o, e, c, d⟩ := id st'
    exact ⟨u, rfl, go_of (s := { s with heap := h' }) e c d (by decide) ⟨x, H, I1, ru, ⟨rfl, fun ys hy => by rw [I.tuple_inj hy hq]; exact hx⟩, st', fun b hb => (hf b hb).1⟩⟩
  done := by
    intro X hP hw hK hc i pins s σ H E I hf st hg
    subst hP hw hK
    obtain ⟨xs, hq, hx⟩ := hg
    obtain ⟨its, rv, p, hz⟩ := I.tuple hq
    obtain ⟨f0, f1, f2, f3, f4, f5⟩ := hf it (by simp)
    have hl := rv.length
    exact wpAny_pyNext_tuple_end (I.ok.hd hc) st (show s.heap.IsTuple a its.toArray from p) (by simp; omega) fun h' eb => ⟨rfl, I.turned (t' := s.toks) (fun b o hb e => eb b o hb e) f0 f1 f3 f4 f5⟩
  self := fun _ _ _ _ _ st h => wpAny_pyIter_tupleiter st h
theorem turn_range {P : Program} {w : World} {K : PySem.W.Frag} {tg : Expr} (it : Addr) (lo : Int) (n : Nat) : Turn P w K tg (Itr lo n) [it] it (fun i h => IsRangeIter h it (lo + (i : Nat) * 1) ((n : Int) - (i : Nat)) 1) where
  mem := by simp
  obj := fun i h st b hb => by
    have e : b = it := by simpa using hb
    subst e
    exact ⟨_, st, fun v z => by
      have z' : Data.fields _ = Data.cell v := z
      cases z'⟩
  keep := fun i h h' st k => k it (by simp) _ st
  item := by
    intro X hP hw hK hc i pins s σ H E I hf st hg
    subst hP hw hK
    obtain ⟨f0, f1, f2, f3, f4, f5⟩ := hf it (by simp)
    have W := Walks.range (prog := X.prog) (w := X.w) (I.ok.hd hc) it lo 1 n
    refine W.item i s _ _ hg st fun v h' tk hv st' kk => ?_
    obtain ⟨t, rfl⟩ := hv
    have I1 : Inv X pins σ H { s with heap := h', toks := tk } := I.turned (fun b o hb e => kk b o (by simpa using hb) e) f0 f1 f3 f4 f5
    refine ⟨_, rfl, go_of (s := { s with heap := h', toks := tk }) (n := "range_iterator") st' rfl rfl (by decide) ⟨.int (lo + i), H, I1, ⟨t, ?_⟩, ⟨rfl, rfl⟩, st', fun b hb => (hf b hb).1⟩⟩
    rw [Int.mul_one]
  done := by
    intro X hP hw hK hc i pins s σ H E I hf st hg
    subst hP hw hK
    obtain ⟨f0, f1, f2, f3, f4, f5⟩ := hf it (by simp)
    exact wpAny_pyNext_range_end (I.ok.hd hc) st (by have : n ≤ i := hg; omega) fun h' eb => ⟨rfl, I.turned (t' := s.toks) (fun b o hb e => eb b o hb e) f0 f1 f3 f4 f5⟩
  self := fun _ _ _ _ _ st h => wpAny_pyIter_rangeiter st h
end L2
namespace L2
open PySem PySem.Spec PyProof.Rows
section
variable {X : Cx} {tg : Expr}
def iList (K : PySem.W.Frag) (tl : TE) : TI := fun σ H R => tl σ H fun x H1 => ∃ a, x = .ref a ∧ (∃ xs, SqL K H1 a xs) ∧ R (Itl K a) H1
def iTup (K : PySem.W.Frag) (tl : TE) : TI := fun σ H R => tl σ H fun x H1 => ∃ a, x = .ref a ∧ (∃ xs, SqT K H1 a xs) ∧ R (Itt K a) H1
theorem pi_list {l : Expr} {tl : TE} (hl : PE X l tl) : PI X tg l (iList X.K tl) := by
  intro pins s σ H R I h
  refine thn (hl pins s σ H _ I h) fun v s1 ⟨x, H1, I1, r1, q1⟩ => ?_
  obtain ⟨a, e, ⟨xs, hq⟩, q⟩ := q1
  subst e
  cases r1
  obtain ⟨its, rv, p, hz⟩ := I1.list hq
  refine wpAny_pyIter_list p.isList ?_
  refine ⟨s1.heap.objs.size, [s1.heap.objs.size], _, _, H1, rfl, I1.kept (t' := s1.toks) fun b o e => Heap.get?_push_of_some _ e, turn_list a _, ⟨_, Heap.get?_push_size _ rfl, rfl, rfl⟩, fun b hb => ?_, q⟩
  have e : b = s1.heap.objs.size := by simpa using hb
  subst e
  exact I1.fpOk (Nat.le_refl _) (I1.hok.fresh (Nat.le_refl _))
theorem pi_tup {l : Expr} {tl : TE} (hl : PE X l tl) : PI X tg l (iTup X.K tl) := by
  intro pins s σ H R I h
  refine thn (hl pins s σ H _ I h) fun v s1 ⟨x, H1, I1, r1, q1⟩ => ?_
  obtain ⟨a, e, ⟨xs, hq⟩, q⟩ := q1
  subst e
  cases r1
  obtain ⟨its, rv, p, hz⟩ := I1.tuple hq
  refine wpAny_pyIter_tuple (show s1.heap.IsTuple a its.toArray from p) ?_
  refine ⟨s1.heap.objs.size, [s1.heap.objs.size], _, _, H1, rfl, I1.kept (t' := s1.toks) fun b o e => Heap.get?_push_of_some _ e, turn_tuple a _, ⟨_, Heap.get?_push_size _ rfl, rfl, rfl⟩, fun b hb => ?_, q⟩
  have e : b = s1.heap.objs.size := by simpa using hb
  subst e
  exact I1.fpOk (Nat.le_refl _) (I1.hok.fresh (Nat.le_refl _))
theorem range_it {pins : List (Addr × Obj)} {σ : St} {H : Hp} {s : Shared} {R : It → Hp → Prop} {E : Value → Shared → Prop} {lo hi : Int} {t u v : Tok} {tk : Nat} (I : Inv X pins σ H s) (h1 : -(2 ^ 62) ≤ lo) (h2 : lo < 2 ^ 62) (h3 : -(2 ^ 62) ≤ hi) (h4 : hi < 2 ^ 62)
    (q : R (Itr lo (hi - lo).toNat) H) : wpAny (model X.prog X.w) X.A (pyIter (.ref s.heap.objs.size)) (PIE X pins σ tg R) E { s with heap := s.heap.push { cls := .type "range", data := .fields #[.int lo t, .int hi u, .int 1 v] }, toks := tk } := by
  refine wpAny_pyIter_range (IsRange.new ..) (small_one h1 h2 h3 h4) ?_
  have I1 : Inv X pins σ H { s with heap := s.heap.push { cls := .type "range", data := .fields #[.int lo t, .int hi u, .int 1 v] }, toks := tk } := I.kept fun b o e => Heap.get?_push_of_some _ e
  refine ⟨(s.heap.push { cls := .type "range", data := .fields #[.int lo t, .int hi u, .int 1 v] }).objs.size, [(s.heap.push { cls := .type "range", data := .fields #[.int lo t, .int hi u, .int 1 v] }).objs.size], _, _, H, rfl,
    I1.kept (t' := tk) fun b o e => Heap.get?_push_of_some _ e, turn_range _ lo (hi - lo).toNat, ?_, fun b hb => ?_, q⟩
  · have e1 : lo + ((0 : Nat) : Int) * 1 = lo := by simp
    have e2 : (((hi - lo).toNat : Nat) : Int) - ((0 : Nat) : Int) = Builtin.Range.rangeSize lo hi 1 := by rw [rangeSize_one]; split <;> omega
    show IsRangeIter _ _ (lo + ((0 : Nat) : Int) * 1) ((((hi - lo).toNat : Nat) : Int) - ((0 : Nat) : Int)) 1
    rw [e1, e2]
    exact Heap.get?_push_size _ rfl
  · have e : b = (s.heap.push { cls := .type "range", data := .fields #[.int lo t, .int hi u, .int 1 v] }).objs.size := by simpa using hb
    subst e
    exact I1.fpOk (Nat.le_refl _) (I1.hok.fresh (Nat.le_refl _))
def iRng1 (ta : TA) : TI := fun σ H R => ta σ H fun vs H1 => ∃ j : Int, vs = [.int j] ∧ -(2 ^ 62) ≤ j ∧ j < 2 ^ 62 ∧ R (Itr 0 j.toNat) H1
def iRng2 (ta : TA) : TI := fun σ H R => ta σ H fun vs H1 => ∃ i j : Int, vs = [.int i, .int j] ∧ (-(2 ^ 62) ≤ i ∧ i < 2 ^ 62 ∧ -(2 ^ 62) ≤ j ∧ j < 2 ^ 62) ∧ R (Itr i (j - i).toNat) H1
theorem pi_range1 {a : Expr} {ta : TA} {p pos : Pos} (hg : Gl X "range") (hm : X.mg "range" = none) (ha : PA X [a] ta) (hs : starEach [a] X.env = [(false, eval a X.env)] := by rfl) : PI X tg (.Call (.Name "range" p) [a] [] pos) (iRng1 ta) := by
  intro pins s σ H R I h
  refine Call_ (ld_blt I hg hm boot_range (PyProof.Rows.callWith_type1 (thn (ha pos pins s σ H _ I h) fun us s1 ⟨vs, H1, I1, r1, q1⟩ => ?_) hs rfl))
  obtain ⟨j, e, q1, q2, q⟩ := q1
  subst e
  cases r1 with
  | cons r rr =>
    cases rr
    obtain ⟨t, rfl⟩ := r
    exact call_range_1 (range_it I1 (by omega) (by omega) q1 q2 (by simpa using q))
theorem pi_range2 {a b : Expr} {ta : TA} {p pos : Pos} (hg : Gl X "range") (hm : X.mg "range" = none) (ha : PA X [a, b] ta) (hs : starEach [a, b] X.env = [(false, eval a X.env), (false, eval b X.env)] := by rfl) (hs2 : starEach [b] X.env = [(false, eval b X.env)] := by rfl) :
    PI X tg (.Call (.Name "range" p) [a, b] [] pos) (iRng2 ta) := by
  intro pins s σ H R I h
  refine Call_ (ld_blt I hg hm boot_range (PyProof.Rows.callWith_type1 (thn (ha pos pins s σ H _ I h) fun us s1 ⟨vs, H1, I1, r1, q1⟩ => ?_) (by rw [hs, hs2]) (by rw [hs2]; rfl)))
  obtain ⟨i, j, e, ⟨q1, q2, q3, q4⟩, q⟩ := q1
  subst e
  cases r1 with
  | cons r rr =>
    cases rr with
    | cons r' rr =>
      cases rr
      obtain ⟨t, rfl⟩ := r
      obtain ⟨t', rfl⟩ := r'
      exact call_range_2 (range_it I1 q1 q2 q3 q4 q)
def tFor (wi : TI) (g : TG) (tb : TS) : TS := fun D σ H => wi σ H fun J H1 => ∃ W : Nat → Nat → St → Hp → Prop, (∃ m, W 0 m σ H1) ∧ ∀ i m σ H, W i m σ H →
  (J.stop i H ∧ D.nx σ H) ∨ (J.go i H ∧ ∃ N : St → Hp → Prop, (∀ σ' H', N σ' H' → ∃ m', m' < m ∧ W (i + 1) m' σ' H') ∧ ∀ x H', J.yld i H x H' → g x σ H' fun σ2 H2 => tb { D with nx := N, ct := N, bk := D.nx } σ2 H2)
def pinsAt (fp : List Addr) (h : Heap) : List (Addr × Obj) := fp.filterMap fun b => (h.get? b).map fun o => (b, o)
theorem mem_pinsAt {fp : List Addr} {h : Heap} {b : Addr} {o : Obj} (hb : b ∈ fp) (e : h.get? b = some o) : (b, o) ∈ pinsAt fp h := List.mem_filterMap.mpr ⟨b, hb, by rw [e]; rfl⟩
theorem of_pinsAt {fp : List Addr} {h : Heap} {p : Addr × Obj} (hp : p ∈ pinsAt fp h) : p.1 ∈ fp ∧ h.get? p.1 = some p.2 := by
  obtain ⟨b, hb, e⟩ := List.mem_filterMap.mp hp
  cases q : h.get? b with
  | none => rw [q] at e; cases e
  | some o =>
    rw [q] at e
    have e' : (b, o) = p := Option.some.inj e
    subst e'
    exact ⟨hb, q⟩
theorem Inv.pinned {pins : List (Addr × Obj)} {σ : St} {H : Hp} {s : Shared} {fp : List Addr} (I : Inv X pins σ H s) (hf : ∀ b ∈ fp, FpOk X pins H b) (ho : ∀ b ∈ fp, ∃ o, s.heap.get? b = some o ∧ ∀ v, o.data ≠ .cell v) : Inv X (pins ++ pinsAt fp s.heap) σ H s :=
  I.pins_of fun p hp => (List.mem_append.mp hp).elim (fun z => I.pin p (List.mem_append_right _ z)) fun z => by
    obtain ⟨hb, e⟩ := of_pinsAt z
    obtain ⟨f0, f1, f2, _⟩ := hf p.1 hb
    obtain ⟨o, e', d⟩ := ho p.1 hb
    rw [e] at e'; cases e'
    exact ⟨e, f0, f1, f2, d⟩
theorem Inv.unpinned {pins pl : List (Addr × Obj)} {σ : St} {H : Hp} {s : Shared} (I : Inv X (pins ++ pl) σ H s) : Inv X pins σ H s := I.pins_of fun p hp => I.pin p (List.mem_append_right _ (List.mem_append_left _ hp))
theorem ps_for {iter : Expr} {body : List Stmt} {wi : TI} {g : TG} {tb : TS} {pos : Pos} (hp : PassesOwn (model X.prog X.w) X.A X.env X.xe) (hc : X.calm = true) (hi : PI X tg iter wi) (hg : PG X tg g) (hb : PSs X body tb)
    (hs : ∀ x, foldedSetIterable iter X.env x = pure x := by intro _; rfl) : PS X (.For tg iter body [] pos) (tFor wi g tb) := by
  intro pins s σ H D I h
  refine wpAny_For (thn (hi pins s σ H _ I h) fun v s1 h1 => thn h1 fun itv s2 h2 => ?_) hs
  obtain ⟨it, fp, tn, J, H2, e, I2, T, st2, f2, W, ⟨m0, w0⟩, turn⟩ := h2
  subst e
  have stat : ∀ {H' : Hp}, (∀ b ∈ fp, H' b = none) → ∀ b ∈ fp, FpOk X pins H' b := fun hn b hb => ⟨hn b hb, (f2 b hb).2⟩
  refine codeAny_forLoop_any (fun n s' => ∃ i σ' H', Inv X pins σ' H' s' ∧ tn i s'.heap ∧ (∀ b ∈ fp, H' b = none) ∧ W i n σ' H') ?_ m0 ⟨0, σ, H2, I2, st2, fun b hb => (f2 b hb).1, w0⟩
  rintro n s3 ⟨i, σ3, H3, I3, st3, fr3, w3⟩
  rcases turn i n σ3 H3 w3 with ⟨stop, qn⟩ | ⟨go, N, hN, step⟩
  · refine wpAny_passesOwn hp (thn (T.done X rfl rfl rfl hc i pins s3 σ3 H3 X.xe I3 (stat fr3) st3 stop) fun r s4 ⟨hr, I4⟩ => ?_)
    subst hr
    exact wpAny_execs_nil ⟨σ3, H3, I4, qn⟩
  · refine wpAny_passesOwn hp (thn (T.item X rfl rfl rfl hc i pins s3 σ3 H3 X.xe I3 (stat fr3) st3 go) fun r s4 ⟨u, hr, h4⟩ => ?_)
    subst hr
    refine wpAny_passesOwn hp (thn h4 fun _ s5 ⟨x, H5, I5, r5, y5, st5, fr5⟩ => ?_)
    have I5' := I5.pinned (stat fr5) (T.obj _ _ st5)
    refine wpAny_passesOwn hp (thn (hg _ s5 σ3 H5 x u _ I5' r5 (step x H5 y5)) fun _ s6 ⟨σ6, H6, I6, q6⟩ => ?_)
    refine wpAny_passesOwn hp (thn (hb _ s6 σ6 H6 _ I6 q6) fun f s7 q7 => ?_)
    have again : ∀ {σ7 : St} {H7 : Hp}, Inv X (pins ++ pinsAt fp s5.heap) σ7 H7 s7 → N σ7 H7 → ∃ m, m < n ∧ ∃ i σ' H', Inv X pins σ' H' s7 ∧ tn i s7.heap ∧ (∀ b ∈ fp, H' b = none) ∧ W i m σ' H' := fun {σ7 H7} I7 n7 => by
      obtain ⟨m', hm, w7⟩ := hN σ7 H7 n7
      refine ⟨m', hm, i + 1, σ7, H7, I7.unpinned, T.keep _ _ _ st5 fun b hb o e => (I7.pin (b, o) (List.mem_append_right _ (List.mem_append_right _ (mem_pinsAt hb e)))).1, fun b hb => ?_, w7⟩
      obtain ⟨o, e, d⟩ := T.obj _ _ st5 b hb
      exact (I7.pin (b, o) (List.mem_append_right _ (List.mem_append_right _ (mem_pinsAt hb e)))).2.1
    cases f with
    | next => obtain ⟨σ7, H7, I7, n7⟩ := q7; exact again I7 n7
    | cont => obtain ⟨σ7, H7, I7, n7⟩ := q7; exact again I7 n7
    | brk => obtain ⟨σ7, H7, I7, q7⟩ := q7; exact ⟨σ7, H7, I7.unpinned, q7⟩
    | ret v => obtain ⟨x7, σ7, H7, I7, r7, q7⟩ := q7; exact ⟨x7, σ7, H7, I7.unpinned, r7, q7⟩
end
theorem for_list {K : PySem.W.Frag} {a : Addr} {xs : List V} {g : TG} {tb : TS} {D : Ends} {σ : St} {H : Hp} (Pv : Nat → St → Hp → Prop) (h0 : Pv 0 σ H) (hl : ∀ i σ H, i ≤ xs.length → Pv i σ H → SqL K H a xs)
    (hs : ∀ i x σ H, xs[i]? = some x → Pv i σ H → g x σ H fun σ2 H2 => tb { D with nx := Pv (i + 1), ct := Pv (i + 1), bk := D.nx } σ2 H2) (hd : ∀ σ H, Pv xs.length σ H → D.nx σ H) :
    ∃ W : Nat → Nat → St → Hp → Prop, (∃ m, W 0 m σ H) ∧ ∀ i m σ H, W i m σ H →
      ((Itl K a).stop i H ∧ D.nx σ H) ∨ ((Itl K a).go i H ∧ ∃ N : St → Hp → Prop, (∀ σ' H', N σ' H' → ∃ m', m' < m ∧ W (i + 1) m' σ' H') ∧ ∀ x H', (Itl K a).yld i H x H' → g x σ H' fun σ2 H2 => tb { D with nx := N, ct := N, bk := D.nx } σ2 H2) := by
  refine ⟨fun i m σ H => m = xs.length - i ∧ i ≤ xs.length ∧ Pv i σ H, ⟨xs.length, by simp, Nat.zero_le _, h0⟩, ?_⟩
  rintro i m σ H ⟨rfl, hi, p⟩
  have q := hl i σ H hi p
  by_cases hlt : i < xs.length
  · refine .inr ⟨⟨xs, xs[i], q, by simp [hlt]⟩, Pv (i + 1), fun σ' H' p' => ⟨xs.length - (i + 1), by omega, rfl, hlt, p'⟩, fun x H' y => ?_⟩
    obtain ⟨e, y⟩ := y
    subst e
    exact hs i x σ _ (y xs q) p
  · have e : i = xs.length := by omega
    subst e
    exact .inl ⟨⟨xs, q, Nat.le_refl _⟩, hd σ H p⟩
theorem for_tup {K : PySem.W.Frag} {a : Addr} {xs : List V} {g : TG} {tb : TS} {D : Ends} {σ : St} {H : Hp} (Pv : Nat → St → Hp → Prop) (h0 : Pv 0 σ H) (hl : ∀ i σ H, i ≤ xs.length → Pv i σ H → SqT K H a xs)
    (hs : ∀ i x σ H, xs[i]? = some x → Pv i σ H → g x σ H fun σ2 H2 => tb { D with nx := Pv (i + 1), ct := Pv (i + 1), bk := D.nx } σ2 H2) (hd : ∀ σ H, Pv xs.length σ H → D.nx σ H) :
    ∃ W : Nat → Nat → St → Hp → Prop, (∃ m, W 0 m σ H) ∧ ∀ i m σ H, W i m σ H →
      ((Itt K a).stop i H ∧ D.nx σ H) ∨ ((Itt K a).go i H ∧ ∃ N : St → Hp → Prop, (∀ σ' H', N σ' H' → ∃ m', m' < m ∧ W (i + 1) m' σ' H') ∧ ∀ x H', (Itt K a).yld i H x H' → g x σ H' fun σ2 H2 => tb { D with nx := N, ct := N, bk := D.nx } σ2 H2) := by
  refine ⟨fun i m σ H => m = xs.length - i ∧ i ≤ xs.length ∧ Pv i σ H, ⟨xs.length, by simp, Nat.zero_le _, h0⟩, ?_⟩
  rintro i m σ H ⟨rfl, hi, p⟩
  have q := hl i σ H hi p
  by_cases hlt : i < xs.length
  · refine .inr ⟨⟨xs, xs[i], q, by simp [hlt]⟩, Pv (i + 1), fun σ' H' p' => ⟨xs.length - (i + 1), by omega, rfl, hlt, p'⟩, fun x H' y => ?_⟩
    obtain ⟨e, y⟩ := y
    subst e
    exact hs i x σ _ (y xs q) p
  · have e : i = xs.length := by omega
    subst e
    exact .inl ⟨⟨xs, q, Nat.le_refl _⟩, hd σ H p⟩
theorem for_range {lo : Int} {n : Nat} {g : TG} {tb : TS} {D : Ends} {σ : St} {H : Hp} (Pv : Nat → St → Hp → Prop) (h0 : Pv 0 σ H)
    (hs : ∀ i σ H, i < n → Pv i σ H → g (.int (lo + i)) σ H fun σ2 H2 => tb { D with nx := Pv (i + 1), ct := Pv (i + 1), bk := D.nx } σ2 H2) (hd : ∀ σ H, Pv n σ H → D.nx σ H) :
    ∃ W : Nat → Nat → St → Hp → Prop, (∃ m, W 0 m σ H) ∧ ∀ i m σ H, W i m σ H →
      ((Itr lo n).stop i H ∧ D.nx σ H) ∨ ((Itr lo n).go i H ∧ ∃ N : St → Hp → Prop, (∀ σ' H', N σ' H' → ∃ m', m' < m ∧ W (i + 1) m' σ' H') ∧ ∀ x H', (Itr lo n).yld i H x H' → g x σ H' fun σ2 H2 => tb { D with nx := N, ct := N, bk := D.nx } σ2 H2) := by
  refine ⟨fun i m σ H => m = n - i ∧ i ≤ n ∧ Pv i σ H, ⟨n, by simp, Nat.zero_le _, h0⟩, ?_⟩
  rintro i m σ H ⟨rfl, hi, p⟩
  by_cases hlt : i < n
  · refine .inr ⟨hlt, Pv (i + 1), fun σ' H' p' => ⟨n - (i + 1), by omega, rfl, hlt, p'⟩, fun x H' y => ?_⟩
    obtain ⟨e, y⟩ := y
    subst e y
    exact hs i σ _ hlt p
  · have e : i = n := by omega
    subst e
    exact .inl ⟨Nat.le_refl _, hd σ H p⟩
end L2
namespace L2
open PySem PySem.Spec PyProof.Rows
abbrev R2 := V → V → Hp → VK → Prop
def OpR (X : Cx) (f : Value → Value → Sem Value) (r : R2) : Prop :=
  ∀ (pins : List (Addr × Obj)) (s : Shared) (σ : St) (H : Hp) (x y : V) (v u : Value) (Q : VK), Inv X pins σ H s → RelV x v → RelV y u → r x y H Q →
    wpAny (model X.prog X.w) X.A (f v u) (EP X pins σ Q) X.xe s
def UnR (X : Cx) (f : Value → Sem Value) (r : V → Hp → VK → Prop) : Prop :=
  ∀ (pins : List (Addr × Obj)) (s : Shared) (σ : St) (H : Hp) (x : V) (v : Value) (Q : VK), Inv X pins σ H s → RelV x v → r x H Q →
    wpAny (model X.prog X.w) X.A (f v) (EP X pins σ Q) X.xe s
def CallR (X : Cx) (f : Value) (r : List V → Hp → VK → Prop) : Prop :=
  ∀ (pins : List (Addr × Obj)) (s : Shared) (σ : St) (H : Hp) (xs : List V) (us : List Value) (Q : VK), Inv X pins σ H s → Vals xs us → r xs H Q →
    wpAny (model X.prog X.w) X.A (call f us) (EP X pins σ Q) X.xe s
def TruR (X : Cx) (r : V → Hp → (Bool → Hp → Prop) → Prop) : Prop :=
  ∀ (pins : List (Addr × Obj)) (s : Shared) (σ : St) (H : Hp) (x : V) (v : Value) (Q : Bool → Hp → Prop), Inv X pins σ H s → RelV x v → r x H Q →
    wpAny (model X.prog X.w) X.A (truthy v) (TP X pins σ Q) X.xe s
def tOp (r : R2) (ta tb : TE) : TE := fun σ H Q => ta σ H fun x H1 => tb σ H1 fun y H2 => r x y H2 Q
def tUn (r : V → Hp → VK → Prop) (ta : TE) : TE := fun σ H Q => ta σ H fun x H1 => r x H1 Q
def rI (C : Int → Int → Prop) (g : Int → Int → V) : R2 := fun x y H Q => ∃ i j, x = .int i ∧ y = .int j ∧ C i j ∧ Q (g i j) H
def rI0 (g : Int → Int → V) : R2 := fun x y H Q => ∃ i j, x = .int i ∧ y = .int j ∧ Q (g i j) H
def rU (g : Int → V) : V → Hp → VK → Prop := fun x H Q => ∃ i, x = .int i ∧ Q (g i) H
section
variable {X : Cx} {a b c : Expr} {ta tb tc : TE} {pos : Pos}
theorem binT (ha : PE X a ta) (hb : PE X b tb) {pins : List (Addr × Obj)} {s : Shared} {σ : St} {H : Hp} {R : V → V → Hp → Prop} (I : Inv X pins σ H s)
    (h : ta σ H fun x H1 => tb σ H1 fun y H2 => R x y H2) {Q : Value → Shared → Prop} {f : Value → Value → Sem Value}
    (hf : ∀ v u s2 x y H2, Inv X pins σ H2 s2 → RelV x v → RelV y u → R x y H2 → wpAny (model X.prog X.w) X.A (f v u) Q X.xe s2) :
    wpAny (model X.prog X.w) X.A (eval a X.env) (fun v s₁ => wpAny (model X.prog X.w) X.A (eval b X.env) (fun u s₂ => wpAny (model X.prog X.w) X.A (f v u) Q X.xe s₂) X.xe s₁) X.xe s := by
  refine thn (ha pins s σ H _ I h) fun v s1 ⟨x, H1, I1, r1, q1⟩ => ?_
  refine thn (hb pins s1 σ H1 _ I1 q1) fun u s2 ⟨y, H2, I2, r2, q2⟩ => ?_
  exact hf v u s2 x y H2 I2 r1 r2 q2
theorem pe_op {op : Operator} {r : R2} (ho : OpR X (binaryOp op) r) (ha : PE X a ta) (hb : PE X b tb) : PE X (.BinOp a op b pos) (tOp r ta tb) := by
  intro pins s σ H Q I h
  exact wpAny_BinOp (binT ha hb I h fun v u s2 x y H2 I2 rx ry q => ho pins s2 σ H2 x y v u Q I2 rx ry q)
theorem pe_un {op : UnaryOp} {r : V → Hp → VK → Prop} (ho : UnR X (unaryOp op) r) (ha : PE X a ta) : PE X (.UnaryOp op a pos) (tUn r ta) := by
  intro pins s σ H Q I h
  exact UnaryOp_ (thn (ha pins s σ H _ I h) fun v s1 ⟨x, H1, I1, r1, q1⟩ => ho pins s1 σ H1 x v Q I1 r1 q1)
theorem opI {f : Value → Value → Sem Value} {C : Int → Int → Prop} {g : Int → Int → Int}
    (rule : ∀ (i j : Int) (t u : Tok) (s : Shared) (Q : Value → Shared → Prop) (E : Value → Shared → Prop), C i j → Q (.int (g i j) s.toks) { s with toks := s.toks + 1 } → wpAny (model X.prog X.w) X.A (f (.int i t) (.int j u)) Q E s) :
    OpR X f (rI C fun i j => .int (g i j)) := by
  intro pins s σ H x y v u Q I rx ry h
  obtain ⟨i, j, rfl, rfl, hc, q⟩ := h
  obtain ⟨t, rfl⟩ := rx
  obtain ⟨t', rfl⟩ := ry
  exact rule i j t t' s _ _ hc ⟨.int (g i j), H, I.tok _, ⟨_, rfl⟩, q⟩
theorem opI0 {f : Value → Value → Sem Value} {g : Int → Int → Int}
    (rule : ∀ (i j : Int) (t u : Tok) (s : Shared) (Q : Value → Shared → Prop) (E : Value → Shared → Prop), Q (.int (g i j) s.toks) { s with toks := s.toks + 1 } → wpAny (model X.prog X.w) X.A (f (.int i t) (.int j u)) Q E s) :
    OpR X f (rI0 fun i j => .int (g i j)) := by
  intro pins s σ H x y v u Q I rx ry h
  obtain ⟨i, j, rfl, rfl, q⟩ := h
  obtain ⟨t, rfl⟩ := rx
  obtain ⟨t', rfl⟩ := ry
  exact rule i j t t' s _ _ ⟨.int (g i j), H, I.tok _, ⟨_, rfl⟩, q⟩
theorem opB0 {f : Value → Value → Sem Value} {g : Int → Int → Bool}
    (rule : ∀ (i j : Int) (t u : Tok) (s : Shared) (Q : Value → Shared → Prop) (E : Value → Shared → Prop), Q (.bool (g i j)) s → wpAny (model X.prog X.w) X.A (f (.int i t) (.int j u)) Q E s) :
    OpR X f (rI0 fun i j => .bl (g i j)) := by
  intro pins s σ H x y v u Q I rx ry h
  obtain ⟨i, j, rfl, rfl, q⟩ := h
  obtain ⟨t, rfl⟩ := rx
  obtain ⟨t', rfl⟩ := ry
  exact rule i j t t' s _ _ ⟨.bl (g i j), H, I, rfl, q⟩
def CDiv (i j : Int) : Prop := 0 < j ∧ j < 1073741824
def CMul (i j : Int) : Prop := (-(2 ^ 64) < i ∧ i < 2 ^ 64) ∨ (-(2 ^ 64) < j ∧ j < 2 ^ 64)
theorem CMul.ok {i j : Int} (h : CMul i j) : IntMulOk i j := by
  rcases h with ⟨h1, h2⟩ | ⟨h1, h2⟩
  · exact .of_left (intBits_le_64 h1 h2)
  · exact .of_right (intBits_le_64 h1 h2)
theorem op_add : OpR X (binaryOp .Add) (rI0 fun i j => .int (i + j)) := opI0 fun _ _ _ _ _ _ _ q => add_int q
theorem op_sub : OpR X (binaryOp .Sub) (rI0 fun i j => .int (i - j)) := opI0 fun _ _ _ _ _ _ _ q => sub_int q
theorem op_mul : OpR X (binaryOp .Mult) (rI CMul fun i j => .int (i * j)) := opI fun _ _ _ _ _ _ _ hc q => mul_int q hc.ok
theorem op_fdiv : OpR X (binaryOp .FloorDiv) (rI CDiv fun i j => .int (i / j)) := opI fun i j _ _ _ _ _ hc q => by
  have h1 : (0 : Int) < j := hc.1
  have h2 : j < 1073741824 := hc.2
  exact floordiv_int (by omega) (by rw [Int.fdiv_eq_ediv_of_nonneg i (by omega)]; exact q) (.inl (PyProof.noPylong_small (by omega)))
theorem op_mod : OpR X (binaryOp .Mod) (rI (fun _ j => 0 < j) fun i j => .int (i % j)) := opI fun i j _ _ _ _ _ hc q => by
  have h1 : (0 : Int) < j := hc
  exact mod_int' (by omega) (by rw [Int.fmod_eq_emod_of_nonneg i (by omega)]; exact q)
theorem unI {f : Value → Sem Value} {g : Int → Int}
    (rule : ∀ (i : Int) (t : Tok) (s : Shared) (Q : Value → Shared → Prop) (E : Value → Shared → Prop), Q (.int (g i) s.toks) { s with toks := s.toks + 1 } → wpAny (model X.prog X.w) X.A (f (.int i t)) Q E s) :
    UnR X f (rU fun i => .int (g i)) := by
  intro pins s σ H x v Q I rx h
  obtain ⟨i, rfl, q⟩ := h
  obtain ⟨t, rfl⟩ := rx
  exact rule i t s _ _ ⟨.int (g i), H, I.tok _, ⟨_, rfl⟩, q⟩
theorem un_neg : UnR X (unaryOp .USub) (rU fun i => .int (-i)) := unI fun _ _ _ _ _ q => neg_int q
end
def scal : V → V → Bool
  | .non, .non => true | .non, .int _ => true | .int _, .non => true | .non, .bl _ => true | .bl _, .non => true | .non, .str _ => true | .str _, .non => true
  | .int _, .int _ => true | .bl _, .bl _ => true | .str _, .str _ => true | .byt _, .byt _ => true
  | .int _, .str _ => true | .str _, .int _ => true | .bl _, .str _ => true | .str _, .bl _ => true
  | _, _ => false
def rEq : R2 := fun x y H Q => scal x y = true ∧ Q (.bl (decide (x = y))) H
def rNe : R2 := fun x y H Q => scal x y = true ∧ Q (.bl (!decide (x = y))) H
theorem dec_int {i j : Int} : decide (V.int i = V.int j) = (i == j) := by
  rw [Bool.eq_iff_iff]
  simp
theorem dec_bl {i j : Bool} : decide (V.bl i = V.bl j) = (i == j) := by
  rw [Bool.eq_iff_iff]
  simp
theorem dec_str {i j : Str} : decide (V.str i = V.str j) = (i == j) := by
  rw [Bool.eq_iff_iff]
  simp
theorem dec_byt {i j : Array UInt8} : decide (V.byt i = V.byt j) = (i.toList == j.toList) := by
  rw [Bool.eq_iff_iff]
  cases i
  cases j
  simp
section
variable {X : Cx} {a b c : Expr} {ta tb tc : TE} {pos : Pos}
theorem fin_bl {pins : List (Addr × Obj)} {σ : St} {H : Hp} {s : Shared} {Q : VK} {k k' : Bool} (I : Inv X pins σ H s) (q : Q (.bl k) H) (e : k = k') : EP X pins σ Q (.bool k') s := by
  subst e
  exact ⟨.bl k, H, I, rfl, q⟩
theorem op_eq : OpR X (compareOp .Eq) rEq := by
  intro pins s σ H x y v u Q I rx ry h
  obtain ⟨hs, q⟩ := h
  cases x with
  | non =>
    cases rx
    cases y with
    | non => cases ry; exact PySem.EqNone.eq_none_none (fin_bl I q (by simp))
    | bl j => cases ry; exact PySem.EqNone.eq_none_bool (fin_bl I q (by simp))
    | int j => obtain ⟨t', rfl⟩ := ry; exact PySem.EqNone.eq_none_int (fin_bl I q (by simp))
    | str j => obtain ⟨t', rfl⟩ := ry; exact PySem.EqNone.eq_none_str (fin_bl I q (by simp))
    | _ => exact absurd (show false = true from hs) Bool.false_ne_true
  | bl i =>
    cases rx
    cases y with
    | non => cases ry; exact PySem.EqNone.eq_bool_none (fin_bl I q (by simp))
    | bl j => cases ry; exact eq_bool (fin_bl I q dec_bl)
    | str j => obtain ⟨t', rfl⟩ := ry; exact PySem.EqMixed.eq_bool_str (fin_bl I q (by simp))
    | _ => exact absurd (show false = true from hs) Bool.false_ne_true
  | int i =>
    obtain ⟨t, rfl⟩ := rx
    cases y with
    | non => cases ry; exact PySem.EqNone.eq_int_none (fin_bl I q (by simp))
    | int j => obtain ⟨t', rfl⟩ := ry; exact eq_int (fin_bl I q dec_int)
    | str j => obtain ⟨t', rfl⟩ := ry; exact PySem.EqMixed.eq_int_str (fin_bl I q (by simp))
    | _ => exact absurd (show false = true from hs) Bool.false_ne_true
  | str i =>
    obtain ⟨t, rfl⟩ := rx
    cases y with
    | non => cases ry; exact PySem.EqNone.eq_str_none (fin_bl I q (by simp))
    | bl j => cases ry; exact PySem.EqMixed.eq_str_bool (fin_bl I q (by simp))
    | int j => obtain ⟨t', rfl⟩ := ry; exact PySem.EqMixed.eq_str_int (fin_bl I q (by simp))
    | str j => obtain ⟨t', rfl⟩ := ry; exact eq_str (fin_bl I q dec_str)
    | _ => exact absurd (show false = true from hs) Bool.false_ne_true
  | byt i =>
    obtain ⟨t, rfl⟩ := rx
    cases y with
    | byt j => obtain ⟨t', rfl⟩ := ry; exact PySem.W.eq_bytes (fin_bl I q dec_byt)
    | _ => exact absurd (show false = true from hs) Bool.false_ne_true
  | _ => cases y <;> exact absurd (show false = true from hs) Bool.false_ne_true
theorem op_ne : OpR X (compareOp .NotEq) rNe := by
  intro pins s σ H x y v u Q I rx ry h
  obtain ⟨hs, q⟩ := h
  cases x with
  | non =>
    cases rx
    cases y with
    | non => cases ry; exact PySem.EqNone.ne_none_none (fin_bl I q (by simp))
    | bl j => cases ry; exact PySem.EqNone.ne_none_bool (fin_bl I q (by simp))
    | int j => obtain ⟨t', rfl⟩ := ry; exact PySem.EqNone.ne_none_int (fin_bl I q (by simp))
    | str j => obtain ⟨t', rfl⟩ := ry; exact PySem.EqNone.ne_none_str (fin_bl I q (by simp))
    | _ => exact absurd (show false = true from hs) Bool.false_ne_true
  | bl i =>
    cases rx
    cases y with
    | non => cases ry; exact PySem.EqNone.ne_bool_none (fin_bl I q (by simp))
    | bl j => cases ry; exact ne_bool (fin_bl I q (congrArg not dec_bl))
    | str j => obtain ⟨t', rfl⟩ := ry; exact PySem.EqMixed.ne_bool_str (fin_bl I q (by simp))
    | _ => exact absurd (show false = true from hs) Bool.false_ne_true
  | int i =>
    obtain ⟨t, rfl⟩ := rx
    cases y with
    | non => cases ry; exact PySem.EqNone.ne_int_none (fin_bl I q (by simp))
    | int j => obtain ⟨t', rfl⟩ := ry; exact ne_int (fin_bl I q (congrArg not dec_int))
    | str j => obtain ⟨t', rfl⟩ := ry; exact PySem.EqMixed.ne_int_str (fin_bl I q (by simp))
    | _ => exact absurd (show false = true from hs) Bool.false_ne_true
  | str i =>
    obtain ⟨t, rfl⟩ := rx
    cases y with
    | non => cases ry; exact PySem.EqNone.ne_str_none (fin_bl I q (by simp))
    | bl j => cases ry; exact PySem.EqMixed.ne_str_bool (fin_bl I q (by simp))
    | int j => obtain ⟨t', rfl⟩ := ry; exact PySem.EqMixed.ne_str_int (fin_bl I q (by simp))
    | str j => obtain ⟨t', rfl⟩ := ry; exact ne_str (fin_bl I q (congrArg not dec_str))
    | _ => exact absurd (show false = true from hs) Bool.false_ne_true
  | byt i =>
    obtain ⟨t, rfl⟩ := rx
    cases y with
    | byt j => obtain ⟨t', rfl⟩ := ry; exact PySem.W.ne_bytes (fin_bl I q (congrArg not dec_byt))
    | _ => exact absurd (show false = true from hs) Bool.false_ne_true
  | _ => cases y <;> exact absurd (show false = true from hs) Bool.false_ne_true
theorem op_lt : OpR X (compareOp .Lt) (rI0 fun i j => .bl (decide (i < j))) := opB0 fun _ _ _ _ _ _ _ q => lt_int q
theorem op_gt : OpR X (compareOp .Gt) (rI0 fun i j => .bl (decide (j < i))) := opB0 fun _ _ _ _ _ _ _ q => gt_int q
theorem op_ge : OpR X (compareOp .GtE) (rI0 fun i j => .bl (decide (j ≤ i))) := opB0 fun _ _ _ _ _ _ _ q => ge_int q
theorem op_in_str : OpR X (compareOp .In) (fun x y H Q => ∃ i j, x = .str i ∧ y = .str j ∧ Q (.bl (!(Builtin.Str.occurrences j i 0 j.length 1).isEmpty)) H) := by
  intro pins s σ H x y v u Q I rx ry h
  obtain ⟨i, j, rfl, rfl, q⟩ := h
  obtain ⟨t, rfl⟩ := rx
  obtain ⟨t', rfl⟩ := ry
  exact in_str (fin_bl I q rfl)
theorem op_isN : OpR X (compareOp .Is) (fun x y H Q => y = .non ∧ Q (.bl (decide (x = .non))) H) := by
  intro pins s σ H x y v u Q I rx ry h
  obtain ⟨rfl, q⟩ := h
  cases ry
  refine is_none_gen (fin_bl I q ?_)
  cases x <;> first
    | (cases rx; rfl)
    | (obtain ⟨t, rfl⟩ := rx; rfl)
theorem op_notN : OpR X (compareOp .IsNot) (fun x y H Q => y = .non ∧ Q (.bl (!decide (x = .non))) H) := by
  intro pins s σ H x y v u Q I rx ry h
  obtain ⟨rfl, q⟩ := h
  cases ry
  refine isnot_none_gen (fin_bl I q ?_)
  cases x <;> first
    | (cases rx; rfl)
    | (obtain ⟨t, rfl⟩ := rx; rfl)
theorem OpR.or {f : Value → Value → Sem Value} {r r' : R2} (h : OpR X f r) (h' : OpR X f r') : OpR X f (fun x y H Q => r x y H Q ∨ r' x y H Q) := by
  intro pins s σ H x y v u Q I rx ry q
  rcases q with q | q
  · exact h pins s σ H x y v u Q I rx ry q
  · exact h' pins s σ H x y v u Q I rx ry q
theorem pe_cmpR {op : CmpOp} {r : R2} (ho : OpR X (compareOp op) r) (ha : PE X a ta) (hb : PE X b tb) (hm : behindInMarks op b = false) : PE X (.Compare a [op] [b] pos) (tOp r ta tb) := by
  intro pins s σ H Q I h
  exact wpAny_Compare1 (binT ha hb I h fun v u s2 x y H2 I2 rx ry q => ho pins s2 σ H2 x y v u Q I2 rx ry q) hm
def tTest (t : TE) : TT := fun σ H Q => t σ H fun x H' => ∃ k, x = .bl k ∧ Q k H'
theorem pt_cmpR {op : CmpOp} {r : R2} (ho : OpR X (compareOp op) r) (ha : PE X a ta) (hb : PE X b tb) (hm : behindInMarks op b = false) : PT X (.Compare a [op] [b] pos) (tTest (tOp r ta tb)) := by
  intro pins s σ H Q I h
  refine wpAny_isTrue_Compare1 (thn (ha pins s σ H _ I h) fun v s1 ⟨x, H1, I1, r1, q1⟩ => thn (hb pins s1 σ H1 _ I1 q1) fun u s2 ⟨y, H2, I2, r2, q2⟩ =>
    thn (ho pins s2 σ H2 x y v u _ I2 r1 r2 q2) fun c s3 ⟨z, H3, I3, r3, k, e, q3⟩ => ?_) hm
  subst e
  cases r3
  exact wpAny_truthy_bool ⟨H3, I3, q3⟩
def TruV (K : PySem.W.Frag) (x : V) (H : Hp) (k : Bool) : Prop :=
  match x with
  | .non => k = false
  | .bl b => k = b
  | .int i => k = (i != 0)
  | .str y => y.length ≤ sizeLine ∧ k = ((y.length : Int) != 0)
  | .byt y => y.size ≤ sizeLine ∧ k = ((y.size : Int) != 0)
  | .ref p => (∃ xs, SqL K H p xs ∧ k = !xs.isEmpty) ∨ (∃ xs, SqT K H p xs ∧ k = !xs.isEmpty) ∨ ∃ kvs, H p = some (.dK kvs) ∧ k = !kvs.isEmpty
  | _ => False
theorem isEmpty_kv {κ : Type} {kvs : List (κ × V)} {vs : List (κ × Value)} (r : KV kvs vs) : (!vs.isEmpty) = !kvs.isEmpty := by
  cases r <;> rfl
theorem isEmpty_of {xs : List V} {its : List Value} (r : Vals xs its) : (!its.toArray.isEmpty) = !xs.isEmpty := by
  cases r <;> simp
theorem line63 : (sizeLine : Nat) < 2 ^ 63 := by rw [sizeLine_eq]; decide
theorem tru_ok : TruR X (fun x H Q => ∃ k, TruV X.K x H k ∧ Q k H) := by
  intro pins s σ H x v Q I rx h
  obtain ⟨k, e, q⟩ := h
  have hl := line63
  have hs : sizeLine = 16777216 := sizeLine_eq
  cases x with
  | non =>
    cases rx
    have e' : k = false := e
    subst e'
    exact truthy_none ⟨H, I, q⟩
  | bl b =>
    cases rx
    have e' : k = b := e
    subst e'
    exact wpAny_truthy_bool ⟨H, I, q⟩
  | int i =>
    obtain ⟨t, rfl⟩ := rx
    have e' : k = (i != 0) := e
    subst e'
    exact PySem.P.truthy_int ⟨H, I, q⟩
  | str y =>
    obtain ⟨t, rfl⟩ := rx
    obtain ⟨hy, e'⟩ : y.length ≤ sizeLine ∧ k = ((y.length : Int) != 0) := e
    subst e'
    exact PySem.P.truthy_str (by omega) ⟨H, I.tok _, q⟩
  | byt y =>
    obtain ⟨t, rfl⟩ := rx
    obtain ⟨hy, e'⟩ : y.size ≤ sizeLine ∧ k = ((y.size : Int) != 0) := e
    subst e'
    exact PySem.W.truthy_bytes (by omega) ⟨H, I.tok _, q⟩
  | ref p =>
    cases rx
    have e' : (∃ xs, SqL X.K H p xs ∧ k = !xs.isEmpty) ∨ (∃ xs, SqT X.K H p xs ∧ k = !xs.isEmpty) ∨ ∃ kvs, H p = some (.dK kvs) ∧ k = !kvs.isEmpty := e
    rcases e' with ⟨xs, hx, e'⟩ | ⟨xs, hx, e'⟩ | ⟨kvs, hx, e'⟩
    · subst e'
      obtain ⟨its, r, pl, hz⟩ := I.list hx
      have hlen := r.length
      exact wpAny_truthy_list pl.isList (by simp only [List.size_toArray]; omega) ⟨H, I.tok _, by rw [isEmpty_of r]; exact q⟩
    · subst e'
      obtain ⟨its, r, pl, hz⟩ := I.tuple hx
      have hlen := r.length
      exact truthy_tuple pl (by simp only [List.size_toArray]; omega) ⟨H, I.tok _, by rw [isEmpty_of r]; exact q⟩
    · subst e'
      obtain ⟨hz, hS, vs, r, m⟩ : kvs.length ≤ sizeLine ∧ (p == sysModules) = false ∧ ∃ vs, KV kvs vs ∧ s.heap.DictOf (mixKind X.prog X.w) p vs := I.hok p _ hx
      have hlen : kvs.length = vs.length := Paired.length r
      exact wpAny_truthy_dict hS m (by omega) ⟨H, I.tok _, by rw [isEmpty_kv r]; exact q⟩
  | _ => exact (show False from e).elim
theorem pt_truth (ha : PE X a ta) (he : ∀ whole, isTrue a X.env whole = (do let v ← whole; standAt a.pos; holding [v] (truthy v))) :
    PT X a (fun σ H Q => ta σ H fun x H' => ∃ k, TruV X.K x H' k ∧ Q k H') := by
  intro pins s σ H Q I h
  exact isTrue_plain (thn (ha pins s σ H _ I h) fun v s1 ⟨x, H1, I1, r1, q1⟩ => tru_ok pins s1 σ H1 x v Q I1 r1 q1) (he _)
theorem op_add_str : OpR X (binaryOp .Add) (fun x y H Q => ∃ i j, x = .str i ∧ y = .str j ∧ i.length + j.length ≤ sizeLine ∧ Q (.str (i ++ j)) H) := by
  intro pins s σ H x y v u Q I rx ry h
  obtain ⟨i, j, rfl, rfl, hz, q⟩ := h
  obtain ⟨t, rfl⟩ := rx
  obtain ⟨t', rfl⟩ := ry
  exact add_str (fun t' tk => ⟨.str (i ++ j), H, I.tok _, ⟨_, rfl⟩, q⟩) hz
theorem vals1 {x : V} {us : List Value} (r : Vals [x] us) : ∃ u, us = [u] ∧ RelV x u := by
  cases r with
  | cons r1 r2 => cases r2; exact ⟨_, rfl, r1⟩
theorem vals2 {x y : V} {us : List Value} (r : Vals [x, y] us) : ∃ u w', us = [u, w'] ∧ RelV x u ∧ RelV y w' := by
  cases r with
  | cons r1 r2 =>
    cases r2 with
    | cons r3 r4 => cases r4; exact ⟨_, _, rfl, r1, r3⟩
theorem call_int1 : CallR X (.type "int") (fun xs H Q => (∃ i, xs = [.int i] ∧ Q (.int i) H) ∨ ∃ k, xs = [.bl k] ∧ Q (.int (if k then 1 else 0)) H) := by
  intro pins s σ H xs us Q I r h
  rcases h with ⟨i, rfl, q⟩ | ⟨k, rfl, q⟩
  · obtain ⟨u, rfl, t, rfl⟩ := vals1 r
    exact call_int_int ⟨.int i, H, I, ⟨_, rfl⟩, q⟩
  · obtain ⟨u, rfl, r1⟩ := vals1 r
    cases r1
    exact call_int_bool ⟨.int (if k then 1 else 0), H, I.tok _, ⟨_, rfl⟩, q⟩
def LenV (K : PySem.W.Frag) (x : V) (H : Hp) (n : Nat) : Prop :=
  match x with
  | .str y => y.length ≤ sizeLine ∧ n = y.length
  | .byt y => y.size ≤ sizeLine ∧ n = y.size
  | .ref p => (∃ xs, SqL K H p xs ∧ n = xs.length) ∨ ∃ xs, SqT K H p xs ∧ n = xs.length
  | _ => False
theorem call_len : CallR X (.builtin "len") (fun xs H Q => ∃ x n, xs = [x] ∧ LenV X.K x H n ∧ Q (.int n) H) := by
  intro pins s σ H xs us Q I r h
  obtain ⟨x, n, rfl, e, q⟩ := h
  obtain ⟨u, rfl, rx⟩ := vals1 r
  have hl := line63
  have hs : sizeLine = 16777216 := sizeLine_eq
  cases x with
  | str y =>
    obtain ⟨t, rfl⟩ := rx
    obtain ⟨hy, e'⟩ : y.length ≤ sizeLine ∧ n = y.length := e
    subst e'
    exact len_str (by omega) ⟨.int _, H, I.tok _, ⟨_, rfl⟩, q⟩
  | byt y =>
    obtain ⟨t, rfl⟩ := rx
    obtain ⟨hy, e'⟩ : y.size ≤ sizeLine ∧ n = y.size := e
    subst e'
    exact PySem.W.len_bytes (by omega) ⟨.int _, H, I.tok _, ⟨_, rfl⟩, q⟩
  | ref p =>
    cases rx
    have e' : (∃ xs, SqL X.K H p xs ∧ n = xs.length) ∨ ∃ xs, SqT X.K H p xs ∧ n = xs.length := e
    rcases e' with ⟨xs, hx, e'⟩ | ⟨xs, hx, e'⟩
    · subst e'
      obtain ⟨its, r', pl, hz⟩ := I.list hx
      have hlen := r'.length
      exact Calls.call_len_list pl.isList (by simp only [List.size_toArray]; omega) ⟨.int xs.length, H, I.tok _, ⟨_, by simp only [List.size_toArray]; rw [hlen]⟩, q⟩
    · subst e'
      obtain ⟨its, r', pl, hz⟩ := I.tuple hx
      have hlen := r'.length
      exact len_tuple pl (by simp only [List.size_toArray]; omega) ⟨.int xs.length, H, I.tok _, ⟨_, by simp only [List.size_toArray]; rw [hlen]⟩, q⟩
  | _ => exact (show False from e).elim
end
end L2
namespace L2
open PySem PySem.Spec PyProof.Rows
structure ObjM (h : Heap) (x dx C : Addr) (mA : Str → Option Value) : Prop where
  obj : h.get? x = some (PySem.W.instObj C dx)
  ns : h.Ns1 dx mA
  ne : dx ≠ x
theorem lookIn_ns {h : Heap} {dx : Addr} {mA : Str → Option Value} (n : h.Ns1 dx mA) : ∃ od, h.get? dx = some od ∧ ∀ name, PySem.W.lookIn name od = some (mA name) := by
  obtain ⟨o, es, ep, ho, hd, hk, _, hm⟩ := n
  refine ⟨o, ho, fun name => ?_⟩
  have e := hm name
  unfold nsFind findBy at e
  rw [← Array.find?_toList] at e
  unfold PySem.W.lookIn
  rw [hd]
  dsimp only
  split
  · rename_i y q
    rw [q] at e
    exact congrArg some e
  · rename_i q
    rw [q] at e
    have a : es.toList.any (·.refKey) = false := by
      rw [List.any_eq_false]
      intro y hy
      obtain ⟨z, t, hkey⟩ := hk y (Array.mem_toList_iff.mp hy)
      simp [DictEntry.refKey, hkey]
    have a' : ¬ es.toList.any (·.refKey) = true := by rw [a]; exact Bool.false_ne_true
    rw [if_neg a']
    exact congrArg some e
theorem ObjM.look {h : Heap} {x dx C : Addr} {mA : Str → Option Value} (I : ObjM h x dx C mA) : ∃ od, PySem.W.InstAt h x (PySem.W.instObj C dx) C (some od) ∧ ∀ name, PySem.W.lookIn name od = some (mA name) :=
  let ⟨od, ho, hl⟩ := lookIn_ns I.ns
  ⟨od, ⟨I.obj, rfl, rfl, ho⟩, hl⟩
section
variable {prog : Program} {w : World} {A : Around} {E : Value → Shared → Prop} {s : Shared} {K : PySem.W.Frag} {x dx C f : Addr} {mA : Str → Option Value} {name : Str} {v : Value}
theorem get_map {expr : Bool} {Q : Value → Shared → Prop} (X : K.In s.heap) (I : ObjM s.heap x dx C mA) (hg : PySem.W.plainGet K C name = true) (hh : PySem.W.hasDictIn K C = true)
    (ha : PySem.W.findIn K (.ref C) name = some none) (hv : mA name = some v) (hv' : PySem.W.handedIn v = true) (h : Q v { s with toks := s.toks + 1 }) :
    wpAny (model prog w) A (getAttr (.ref x) name expr) Q E s := by
  obtain ⟨od, J, hl⟩ := I.look
  exact PySem.W.get_value X J (PySem.W.plainGet_of hg).1 (PySem.W.findObj_own hh ha rfl (by rw [hl, hv])) hv' h
theorem get_meth {pl : Sem Bool} {Q : Value × List Value → Shared → Prop} (X : K.In s.heap) (I : ObjM s.heap x dx C mA) (hg : PySem.W.plainGet K C name = true)
    (hf : PySem.W.findIn K (.ref C) name = some (some (.ref f))) (ht : PySem.W.isFn K (.ref f) = true) (hv : mA name = none) (h : Q (.ref f, [.ref x]) s) :
    wpAny (model prog w) A (getMethod (.ref x) name pl) Q E s := by
  obtain ⟨od, J, hl⟩ := I.look
  exact PySem.W.method_fn X J (PySem.W.plainGet_of hg).1 (PySem.W.plainGet_of hg).2 hf (beq_iff_eq.mp ht) (by show (PySem.W.lookIn name od).map (·.isSome) = some false; rw [hl, hv]; rfl) h
theorem set_map {ns : List Str} {Q : Unit → Shared → Prop} (X : K.In s.heap) (I : ObjM s.heap x dx C mA)
    (hs : PySem.W.findIn K (.ref C) "__setattr__" = some (some (.builtin "object.__setattr__"))) (hp : PySem.W.plainOver K C = true) (ht : PySem.W.takerIn K C name = some none) (hh : PySem.W.hasDictIn K C = true)
    (hw : PySem.Within mA ns) (hsz : ns.length ≤ sizeLine)
    (h : ∀ h', ObjM h' x dx C (fun y => if y = name then some v else mA y) → Heap.SameBut dx s.heap h' → Q () { s with heap := h', toks := s.toks + 2 }) :
    wpAny (model prog w) A (setAttr (.ref x) name v) Q E s := by
  obtain ⟨od, J, hl⟩ := I.look
  refine PySem.W.set_plain X J hs (PySem.W.osa_open (s := { s with toks := s.toks + 1 }) (r := none) X J hp ht fun b => ?_)
  obtain ⟨cd, hc, hd'⟩ := PySem.W.any_some hh
  have hx : s.heap.get? x = some ⟨.ref C, some dx, .plain, #[]⟩ := I.obj
  refine wpAny_bind (wpAny_pure (wpAny_bind (wpAny_bind (wpAny_loadPart hx (wpAny_bind (PySem.W.Looks.here (s := { s with toks := s.toks + 1 }) (PySem.W.looks_clsIn X hc) ?_))))))
  rw [hd']
  refine wpAny_pure (a := some dx) (wpAny_bind (wpAny_pure (wpAny_bind ?_)))
  refine wpAny_nsSet1 (s := { s with toks := s.toks + 1 }) I.ns fun h' hn2 hs2 => ?_
  obtain ⟨oD, esD, epD, hoD, hdD, hcD⟩ := hn2.count (PySem.Within.cons name v hw)
  refine wpAny_bind (wpAny_lookBehind hoD (by rw [hdD]; exact pastItsLine_dict (Nat.le_trans hcD (by rw [List.length_cons]; omega))) ?_)
  exact wpAny_pure (h _ ⟨(hs2.2 _ (Ne.symm I.ne)).trans I.obj, hn2, I.ne⟩ hs2)
theorem make_map {R : Result → Shared → Prop} {vs : List Value} {kw : List (Str × Value)} (X : K.In s.heap) (hm : PySem.W.makesIn K C = true)
    (hi : PySem.W.findIn K (.ref C) "__init__" = some (some (.ref f))) (hf : PySem.W.typeIn K (.ref f) = some (.type "function"))
    (h : codeAny (model prog w) (A.under (.builtin "type.__call__" ⟨.ref C :: vs, kw⟩)) (.call (.ref f) ⟨.ref (s.heap.objs.size + 1) :: vs, kw⟩) (PySem.W.InitBack (s.heap.objs.size + 1) R)
      { s with heap := (s.heap.push PySem.W.emptyDict).push (PySem.W.instObj C s.heap.objs.size) }) :
    codeAny (model prog w) A (.call (.ref C) ⟨vs, kw⟩) R s := by
  obtain ⟨hh, g, d, t, os⟩ := s
  exact PySem.W.make_core (PySem.W.makes_of X hm) (PySem.W.looks_findIn X hi) (fun self => PySem.W.bind_fn X self hf) (.inl rfl) h
end
def putF (f : Str) (v : V) : List (Str × V) → List (Str × V)
  | [] => [(f, v)]
  | (g, x) :: r => if g = f then (g, v) :: r else (g, x) :: putF f v r
theorem lookup_putF (f g : Str) (v : V) : ∀ fs : List (Str × V), (putF f v fs).lookup g = if g = f then some v else fs.lookup g
  | [] => by
    show List.lookup g [(f, v)] = _
    by_cases h : g = f
    · have hb : (g == f) = true := beq_iff_eq.mpr h
      simp only [List.lookup, hb, if_pos h]
    · have hb : (g == f) = false := beq_eq_false_iff_ne.mpr h
      simp only [List.lookup, hb, if_neg h]
  | (k, x) :: r => by
    have ih := lookup_putF f g v r
    rw [show putF f v ((k, x) :: r) = (if k = f then (k, v) :: r else (k, x) :: putF f v r) from rfl]
    by_cases hk : k = f
    · rw [if_pos hk]
      by_cases h : g = k
      · have hb : (g == k) = true := beq_iff_eq.mpr h
        simp only [List.lookup, hb, if_pos (h.trans hk)]
      · have hb : (g == k) = false := beq_eq_false_iff_ne.mpr h
        simp only [List.lookup, hb, if_neg (fun e : g = f => h (e.trans hk.symm))]
    · rw [if_neg hk]
      by_cases h : g = k
      · have hb : (g == k) = true := beq_iff_eq.mpr h
        simp only [List.lookup, hb, if_neg (fun e : g = f => hk (h.symm.trans e))]
      · have hb : (g == k) = false := beq_eq_false_iff_ne.mpr h
        simp only [List.lookup, hb]
        exact ih
theorem keys_putF (f : Str) (v : V) : ∀ fs : List (Str × V), f ∈ (putF f v fs).map (·.1) ∧ ∀ g, g ∈ fs.map (·.1) → g ∈ (putF f v fs).map (·.1)
  | [] => ⟨by simp [putF], fun g h => by simp at h⟩
  | (k, x) :: r => by
    obtain ⟨i1, i2⟩ := keys_putF f v r
    rw [show putF f v ((k, x) :: r) = (if k = f then (k, v) :: r else (k, x) :: putF f v r) from rfl]
    by_cases hk : k = f
    · rw [if_pos hk]
      subst hk
      exact ⟨by simp, fun g h => by simpa using h⟩
    · rw [if_neg hk]
      refine ⟨?_, fun g h => ?_⟩
      · rw [List.map_cons]
        exact List.mem_cons_of_mem _ i1
      · rw [List.map_cons] at h ⊢
        rcases List.mem_cons.mp h with e | e
        · exact List.mem_cons.mpr (.inl e)
        · exact List.mem_cons_of_mem _ (i2 g e)
theorem length_putF (f : Str) (v : V) : ∀ fs : List (Str × V), (putF f v fs).length ≤ fs.length + 1
  | [] => by simp [putF]
  | (k, x) :: r => by
    have ih := length_putF f v r
    rw [show putF f v ((k, x) :: r) = (if k = f then (k, v) :: r else (k, x) :: putF f v r) from rfl]
    by_cases hk : k = f
    · rw [if_pos hk, List.length_cons, List.length_cons]; omega
    · rw [if_neg hk, List.length_cons, List.length_cons]; omega
theorem RelO.some_of {v : V} {o : Option Value} (r : RelO (some v) o) : ∃ u, o = some u ∧ RelV v u := by
  cases o with
  | none => exact (show False from r).elim
  | some u => exact ⟨u, rfl, r⟩
theorem RelO.none_of {o : Option Value} (r : RelO none o) : o = none := by
  cases o with
  | none => rfl
  | some u => exact (show False from r).elim
theorem handed_of {v : V} {u : Value} (r : RelV v u) : PySem.W.handedIn u = true := by
  cases v with
  | non => cases (show u = Value.none from r); rfl
  | bl b => cases (show u = Value.bool b from r); rfl
  | int i => obtain ⟨t, e⟩ := (show ∃ t, u = Value.int i t from r); cases e; rfl
  | str x => obtain ⟨t, e⟩ := (show ∃ t, u = Value.str x t from r); cases e; rfl
  | byt b => obtain ⟨t, e⟩ := (show ∃ t, u = Value.bytes b t from r); cases e; rfl
  | flt b => obtain ⟨t, e⟩ := (show ∃ t, u = Value.float b t from r); cases e; rfl
  | ref a => cases (show u = Value.ref a from r); rfl
  | ty n => cases (show u = Value.type n from r); rfl
section
variable {P : Program} {w : World} {H H' : Hp} {h h' : Heap} {a C dx : Addr} {fs fs' : List (Str × V)}
theorem ins_get (hok : HOk P w H h) (e : H a = some (.ins C dx fs)) : ∃ mA, ObjM h a dx C mA ∧ (∀ f, RelO (fs.lookup f) (mA f)) ∧ PySem.Within mA (fs.map (·.1)) ∧ fs.length ≤ 1000 ∧ H dx = some (.own a) := by
  obtain ⟨d, z, ne, ob, mA, n, r, q⟩ := (show ObjOk P w H h a (.ins C dx fs) from hok a _ e)
  exact ⟨mA, ⟨ob, n, ne⟩, r, q, z, d⟩
end
structure Cls (K : PySem.W.Frag) (C : Addr) : Prop where
  pg : PySem.W.plainGet K C Str.empty = true
  hd : PySem.W.hasDictIn K C = true
  po : PySem.W.plainOver K C = true
  sa : PySem.W.findIn K (.ref C) "__setattr__" = some (some (.builtin "object.__setattr__"))
theorem Cls.get {K : PySem.W.Frag} {C : Addr} (c : Cls K C) (f : Str) : PySem.W.plainGet K C f = true := c.pg
def NoAttr (K : PySem.W.Frag) (C : Addr) (f : Str) : Prop := PySem.W.findIn K (.ref C) f = some none
theorem NoAttr.taker {K : PySem.W.Frag} {C : Addr} {f : Str} (n : NoAttr K C f) : PySem.W.takerIn K C f = some none := by
  unfold PySem.W.takerIn
  rw [show PySem.W.findIn K (.ref C) f = some none from n]
  rfl
structure Meth (K : PySem.W.Frag) (C : Addr) (m : Str) (f : Addr) : Prop where
  at_ : PySem.W.findIn K (.ref C) m = some (some (.ref f))
  fn : PySem.W.isFn K (.ref f) = true
  kp : PySem.W.keepIn K (.ref f) = true
section
variable {X : Cx} {pins : List (Addr × Obj)} {σ : St} {H : Hp} {s : Shared} {a C dx : Addr} {fs : List (Str × V)} {f : Str} {v : V} {A : Around} {E : Value → Shared → Prop}
theorem getattr_ok {b : Bool} {Q : Value → Shared → Prop} (I : Inv X pins σ H s) (e : H a = some (.ins C dx fs)) (c : Cls X.K C) (n : NoAttr X.K C f) (l : fs.lookup f = some v)
    (h : ∀ u s', Inv X pins σ H s' → RelV v u → Q u s') : wpAny (model X.prog X.w) A (getAttr (.ref a) f b) Q E s := by
  obtain ⟨mA, O, r, _, _, _⟩ := ins_get I.hok e
  obtain ⟨u, hu, ru⟩ := RelO.some_of (v := v) (o := mA f) (by rw [← l]; exact r f)
  exact get_map I.kIn O (c.get f) c.hd n hu (handed_of ru) (h u _ (I.tok _) ru)
theorem getmeth_ok {m : Str} {g : Addr} {pl : Sem Bool} {Q : Value × List Value → Shared → Prop} (I : Inv X pins σ H s) (e : H a = some (.ins C dx fs)) (c : Cls X.K C) (k : Meth X.K C m g) (l : fs.lookup m = none)
    (h : Q (.ref g, [.ref a]) s) : wpAny (model X.prog X.w) A (getMethod (.ref a) m pl) Q E s := by
  obtain ⟨mA, O, r, _, _, _⟩ := ins_get I.hok e
  have hn : mA m = none := RelO.none_of (by rw [← l]; exact r m)
  exact get_meth I.kIn O (c.get m) k.at_ k.fn hn h
theorem setattr_ok {y : V} {u : Value} {Q : Unit → Shared → Prop} (I : Inv X pins σ H s) (e : H a = some (.ins C dx fs)) (c : Cls X.K C) (n : NoAttr X.K C f) (hl : fs.length < 1000) (ry : RelV y u)
    (h : ∀ s', Inv X pins σ (upd H a (.ins C dx (putF f y fs))) s' → Q () s') : wpAny (model X.prog X.w) A (setAttr (.ref a) f u) Q E s := by
  obtain ⟨mA, O, r, wi, _, ho⟩ := ins_get I.hok e
  have hz : (fs.map (·.1)).length ≤ sizeLine := by rw [List.length_map, sizeLine_eq]; omega
  refine set_map I.kIn O c.sa c.po n.taker c.hd wi hz fun h' O' sb => h _ ?_
  have hd : ∃ o, h'.get? dx = some o := let ⟨o, _, _, e', _⟩ := O'.ns; ⟨o, e'⟩
  refine I.write (x := a) (e := dx) (by rw [e]; exact True.intro) (.inr ho) (fun b q hb z => (sb.2 b hb).trans z) hd ?_
  refine ⟨by rw [upd_ne O.ne]; exact ho, ?_, O.ne, O'.obj, _, O'.ns, fun g => ?_, fun g hg => ?_⟩
  · have := length_putF f y fs; omega
  · show RelO ((putF f y fs).lookup g) (if g = f then some u else mA g)
    rw [lookup_putF]
    by_cases q : g = f
    · rw [if_pos q, if_pos q]; exact ry
    · rw [if_neg q, if_neg q]; exact r g
  · by_cases q : g = f
    · rw [q]; exact (keys_putF f y fs).1
    · refine (keys_putF f y fs).2 g (wi g fun z => hg ?_)
      show (if g = f then some u else mA g) = none
      rw [if_neg q]; exact z
theorem Inv.made (I : Inv X pins σ H s) : Inv X pins σ (upd (upd H s.heap.objs.size (.own (s.heap.objs.size + 1))) (s.heap.objs.size + 1) (.ins C s.heap.objs.size []))
    { s with heap := (s.heap.push PySem.W.emptyDict).push (PySem.W.instObj C s.heap.objs.size) } := by
  have e1 : (s.heap.push PySem.W.emptyDict).get? s.heap.objs.size = some PySem.W.emptyDict := Heap.get?_push_size s.heap rfl
  have e2 : ((s.heap.push PySem.W.emptyDict).push (PySem.W.instObj C s.heap.objs.size)).get? (s.heap.objs.size + 1) = some (PySem.W.instObj C s.heap.objs.size) := by
    have := Heap.get?_push_size (s.heap.push PySem.W.emptyDict) (o := PySem.W.instObj C s.heap.objs.size) rfl
    rwa [Heap.size_push] at this
  have e3 : (s.heap.push PySem.W.emptyDict).Ns s.heap.objs.size (fun _ => none) := ⟨PySem.W.emptyDict, #[], _, e1, rfl, (fun e he => absurd he (by simp)), fun _ => rfl⟩
  have I1 := I.laid (a := s.heap.objs.size) (o := .own (s.heap.objs.size + 1)) (h' := s.heap.push PySem.W.emptyDict) (t' := s.toks) (fun b u q => Heap.get?_push_of_some _ q) (Nat.le_refl _) ⟨_, e1⟩
  refine I1.laid (a := s.heap.objs.size + 1) (o := .ins C s.heap.objs.size []) (t' := s.toks) (fun b u q => Heap.get?_push_of_some _ q) (Nat.le_of_eq (Heap.size_push _ _)) ?_
  have ne : s.heap.objs.size ≠ s.heap.objs.size + 1 := Nat.ne_of_lt (Nat.lt_succ_self _)
  refine ⟨by rw [upd_ne ne, upd_same], Nat.zero_le _, ne, e2, fun _ => none, (Heap.Ns1.of_empty e3).at fun o q => Heap.get?_push_of_some _ q, fun _ => True.intro, fun y hy => absurd rfl hy⟩
theorem attr_of {prog : Program} {w : World} {env : Env} {e : Expr} {f : Str} {pos : Pos} {s : Shared} {Q : Value → Shared → Prop} (hb : attributeBase e f env (eval e env) = eval e env)
    (h : wpAny (model prog w) A (eval e env) (fun o s₁ => wpAny (model prog w) A (getAttr o f true) Q E s₁) E s) : wpAny (model prog w) A (eval (.Attribute e f pos) env) Q E s :=
  Attribute_any_ h (by rw [arm_eval_Attribute, hb])
end
def tFld (K : PySem.W.Frag) (ta : TE) (f : Str) : TE := fun σ H Q => ta σ H fun x H1 => ∃ a C dx fs v, x = .ref a ∧ H1 a = some (.ins C dx fs) ∧ Cls K C ∧ NoAttr K C f ∧ fs.lookup f = some v ∧ Q v H1
def sFld (K : PySem.W.Frag) (ta tv : TE) (f : Str) : TS := fun D σ H => tv σ H fun y H1 => ta σ H1 fun x H2 => ∃ a C dx fs, x = .ref a ∧ H2 a = some (.ins C dx fs) ∧ Cls K C ∧ NoAttr K C f ∧ fs.length < 1000 ∧
  D.nx σ (upd H2 a (.ins C dx (putF f y fs)))
def InOp (X : Cx) (op : Operator) (rd : V → V → Hp → VK → Prop) : Prop :=
  ∀ (pins : List (Addr × Obj)) (s : Shared) (σ : St) (H : Hp) (x y : V) (u v : Value) (Q : VK), Inv X pins σ H s → RelV x u → RelV y v → rd x y H Q → wpAny (model X.prog X.w) X.A (inplaceOp op u v) (EP X pins σ Q) X.xe s
def sFldAug (K : PySem.W.Frag) (ta tv : TE) (rd : V → V → Hp → VK → Prop) (f : Str) : TS := fun D σ H => ta σ H fun x H1 => ∃ a C dx fs v, x = .ref a ∧ H1 a = some (.ins C dx fs) ∧ Cls K C ∧ NoAttr K C f ∧ fs.lookup f = some v ∧
  tv σ H1 fun y H2 => rd v y H2 fun z H3 => ∃ dx' fs', H3 a = some (.ins C dx' fs') ∧ fs'.length < 1000 ∧ D.nx σ (upd H3 a (.ins C dx' (putF f z fs')))
section
variable {X : Cx} {o e value : Expr} {f : Str} {pos pos' tpos : Pos} {ta tv : TE}
theorem pe_fld (he : PE X e ta) (hb : attributeBase e f X.env (eval e X.env) = eval e X.env) : PE X (.Attribute e f pos) (tFld X.K ta f) := by
  intro pins s σ H Q I h
  refine attr_of hb (thn (he pins s σ H _ I h) fun u s1 ⟨x, H1, I1, rx, a, C, dx, fs, v, ex, ea, c, n, l, q⟩ => ?_)
  subst ex
  obtain rfl : u = Value.ref a := rx
  exact getattr_ok I1 ea c n l fun u' s2 I2 ru => ⟨v, H1, I2, ru, q⟩
theorem ps_fld (ha : PE X o ta) (hv : PE X value tv) (hs : swapsWith value (some (.Attribute o f pos')) pos.line X.env = pure false) : PS X (.Assign [.Attribute o f pos'] value pos) (sFld X.K ta tv f) := by
  intro pins s σ H D I h
  refine plainObj_wpAny_Assign_Attribute (thn (hv pins s σ H _ I h) fun u s1 ⟨y, H1, I1, ry, q⟩ => thn (ha pins s1 σ H1 _ I1 q) fun ov s2 ⟨x, H2, I2, rx, a, C, dx, fs, ex, ea, c, n, l, q2⟩ => ?_) hs
  subst ex
  obtain rfl : ov = Value.ref a := rx
  exact setattr_ok I2 ea c n l ry fun s3 I3 => ⟨σ, _, I3, q2⟩
theorem ps_fldaug {op : Operator} {rd : V → V → Hp → VK → Prop} (ha : PE X o ta) (hv : PE X value tv) (hop : InOp X op rd) : PS X (.AugAssign (.Attribute o f tpos) op value pos) (sFldAug X.K ta tv rd f) := by
  intro pins s σ H D I h
  refine wpAny_AugAssign_AttributeAny (thn (ha pins s σ H _ I h) fun ov s1 ⟨x, H1, I1, rx, a, C, dx, fs, v, ex, ea, c, n, l, q⟩ => ?_)
  subst ex
  obtain rfl : ov = Value.ref a := rx
  refine getattr_ok I1 ea c n l fun u s2 I2 ru => thn (hv pins s2 σ H1 _ I2 q) fun w3 s3 ⟨y, H2, I3, ry, q3⟩ => thn (hop pins s3 σ H2 v y u w3 _ I3 ru ry q3) fun w4 s4 ⟨z, H3, I4, rz, dx', fs', ea', l', q4⟩ => ?_
  exact setattr_ok I4 ea' c n l' rz fun s5 I5 => ⟨σ, _, I5, q4⟩
def rAdd : V → V → Hp → VK → Prop := fun x y H Q => ∃ i j, x = .int i ∧ y = .int j ∧ Q (.int (i + j)) H
theorem in_add : InOp X .Add rAdd := by
  rintro pins s σ H x y u v Q I rx ry ⟨i, j, rfl, rfl, q⟩
  obtain ⟨t, rfl⟩ := (show ∃ t, u = Value.int i t from rx)
  obtain ⟨t', rfl⟩ := (show ∃ t', v = Value.int j t' from ry)
  exact PyProof.Rows.iadd_int ⟨.int (i + j), H, I.tok _, ⟨_, rfl⟩, q⟩
end
section
variable {X : Cx} {pins : List (Addr × Obj)} {σ : St} {H : Hp} {s : Shared} {A : Around} {E : Value → Shared → Prop} {Q : Value → Shared → Prop} {c : Value} {b : Bool}
end
end L2
namespace L2
open PySem PySem.Spec PyProof.Rows
structure Room (k : Nat) (A : Around) : Prop where
  hd : A.handled = none
  dp : A.depth + 2 * k + 5 < recursionLimit
  un : A.units + 16 * k + 200 < cLine
theorem Room.mono {j k : Nat} {A : Around} (r : Room k A) (h : j ≤ k) : Room j A := ⟨r.hd, by have := r.dp; omega, by have := r.un; omega⟩
theorem Room.deeper {k : Nat} {A : Around} (r : Room (k + 1) A) (env : Env) : Room k (A.deeper env) :=
  ⟨r.hd, by have := r.dp; show A.depth + 1 + 2 * k + 5 < _; omega, by have := r.un; show A.units + 3 + 16 * k + 200 < _; omega⟩
theorem make_depth {A : Around} {C : Addr} {us : List Value} {kw : List (Str × Value)} : (A.under (.builtin "type.__call__" ⟨.ref C :: us, kw⟩)).depth = A.depth + 1 := by
  first | rfl | simp [Around.under, Code.weight, Code.isCreation, Code.isGuard, Code.isCaller, Code.frames, Code.isFrame, guardIds]
theorem make_units {A : Around} {C : Addr} {us : List Value} {kw : List (Str × Value)} : (A.under (.builtin "type.__call__" ⟨.ref C :: us, kw⟩)).units = A.units + 1 := by
  first | rfl | simp [Around.under, Code.cUnits, Code.frames, Code.isFrame]
theorem Room.make {k : Nat} {A : Around} (r : Room (k + 1) A) (C : Addr) (us : List Value) (kw : List (Str × Value)) : Room k (A.under (.builtin "type.__call__" ⟨.ref C :: us, kw⟩)) :=
  ⟨r.hd, by have := r.dp; rw [make_depth]; omega, by have := r.un; rw [make_units]; omega⟩
theorem Room.depth {k : Nat} {A : Around} (r : Room k A) : A.depth < recursionLimit := by have := r.dp; omega
theorem Room.units0 {k : Nat} {A : Around} (r : Room k A) : A.units < cLine := by have := r.un; omega
def tNil : TA := fun _ H Q => Q [] H
def tCons (ta : TE) (tr : TA) : TA := fun σ H Q => ta σ H fun x H1 => tr σ H1 fun xs H2 => Q (x :: xs) H2
section
variable {X : Cx} {e : Expr} {es : List Expr} {te : TE} {t : TA} {pos : Pos}
theorem pa_nil : PA X [] tNil := fun _ _ _ _ H Q I h => Calls.spliced_nil ⟨[], H, I, .nil, h⟩
theorem pa_cons (ha : PE X e te) (hr : PA X es t) (hs : starEach (e :: es) X.env = (false, eval e X.env) :: starEach es X.env := by rfl) : PA X (e :: es) (tCons te t) := by
  intro pos pins s σ H Q I h
  rw [hs]
  show wpAny _ _ (spliced ((false, eval e X.env) :: backTo pos (starEach es X.env))) _ _ s
  refine Calls.spliced_cons (thn (ha pins s σ H _ I h) fun u s1 ⟨x, H1, I1, r1, q1⟩ => ?_)
  exact thn (hr pos pins s1 σ H1 _ I1 q1) fun us s2 ⟨xs, H2, I2, r2, q2⟩ => ⟨x :: xs, H2, I2, .cons r1 r2, q2⟩
def tTup (t : TA) : TE := fun σ H Q => t σ H fun xs H1 => xs.length ≤ sizeLine ∧ ∀ p, H1 p = none → Q (.ref p) (upd H1 p (.tup xs))
def tLst (t : TA) : TE := fun σ H Q => t σ H fun xs H1 => xs.length ≤ sizeLine ∧ ∀ p, H1 p = none → Q (.ref p) (upd H1 p (.lst xs))
theorem pe_tup {x1} (h : PA X es t) : PE X (.Tuple es x1 pos) (tTup t) := by
  intro pins s σ H Q I hq
  refine wpAny_Tuple_spliced (thn (h pos pins s σ H _ I hq) fun us s1 ⟨xs, H1, I1, r, z, q⟩ => ⟨by rw [← r.length]; exact z, ?_⟩)
  have hf : H1 s1.heap.objs.size = none := I1.hok.fresh (Nat.le_refl _)
  refine ⟨.ref s1.heap.objs.size, upd H1 s1.heap.objs.size (.tup xs), I1.laid (t' := s1.toks) (fun b u e => Heap.get?_push_of_some _ e) (Nat.le_refl _) ?_, rfl, q _ hf⟩
  exact ⟨z, us, r, ⟨_, Heap.get?_push_size _ rfl, rfl, _, rfl⟩⟩
theorem pe_lst (h : PA X es t) : PE X (.List es pos) (tLst t) := by
  intro pins s σ H Q I hq
  refine wpAny_List_spliced (thn (h pos pins s σ H _ I hq) fun us s1 ⟨xs, H1, I1, r, z, q⟩ => ⟨by rw [← r.length]; exact z, ?_⟩)
  have hf : H1 s1.heap.objs.size = none := I1.hok.fresh (Nat.le_refl _)
  refine ⟨.ref s1.heap.objs.size, upd H1 s1.heap.objs.size (.lst xs), I1.laid (t' := s1.toks) (fun b u e => Heap.get?_push_of_some _ e) (Nat.le_refl _) ?_, rfl, q _ hf⟩
  exact ⟨z, us, 0, r, Heap.get?_push_size _ rfl⟩
end
abbrev Sp := List V → Hp → VK → XK → Prop
abbrev CXT := List Env → Hp → Shared → XK → Value → Shared → Prop
structure Env0 (P : Program) (w : World) (K : PySem.W.Frag) (mg : Str → Option Value) (base : Heap) (A : Around) (outer : List Env) (s : Shared) (H : Hp) : Prop where
  frames : A.frames = some outer
  mod : Mod K mg base
  bs : ∀ b o, base.get? b = some o → s.heap.get? b = some o ∧ H b = none
  bsz : base.objs.size ≤ s.heap.objs.size
  funs : s.heap.FunFrames base outer
  frf : ∀ b ∈ frs outer, H b = none
  hok : HOk P w H s.heap
  bare : AllBare s.gens
def CE (outer : List Env) (P : Program) (w : World) (H : Hp) (s : Shared) (Q : VK) (u : Value) (s' : Shared) : Prop :=
  ∃ v H', s'.os = s.os ∧ AllBare s'.gens ∧ Un (frs outer) [] H H' s.heap s'.heap ∧ HOk P w H' s'.heap ∧ RelV v u ∧ Q v H'
def CR (CX : CXT) (outer : List Env) (P : Program) (w : World) (H : Hp) (s : Shared) (Q : VK) (E : XK) (r : Result) (s' : Shared) : Prop :=
  match r with
  | .ok (.ret u) => CE outer P w H s Q u s'
  | .ok _ => False
  | .error e => CX outer H s E e s'
structure FnOk (P : Program) (w : World) (K : PySem.W.Frag) (mg : Str → Option Value) (base : Heap) (CX : CXT) (k : Nat) (f : Addr) (fd : FuncData) (ps : List Str) (sp : Sp) : Prop where
  len : ∀ vs H Q E, sp vs H Q E → vs.length = ps.length
  run : ∀ (A : Around) (outer : List Env) (s : Shared) (H : Hp) (args : Args) (us : List Value) (vs : List V) (Q : VK) (E : XK), Room k A → Env0 P w K mg base A outer s H → BindsTo s fd args (ps.zip us) → Vals vs us → sp vs H Q E →
    codeAny (model P w) A (.call (.ref f) args) (CR CX outer P w H s Q E) s
theorem Env0.make {P : Program} {w : World} {K : PySem.W.Frag} {mg : Str → Option Value} {base : Heap} {A : Around} {outer : List Env} {s : Shared} {H : Hp} (e : Env0 P w K mg base A outer s H) (C : Addr) (us : List Value) (kw : List (Str × Value)) :
    Env0 P w K mg base (A.under (.builtin "type.__call__" ⟨.ref C :: us, kw⟩)) outer s H := ⟨by first | exact e.frames | (simpa [Around.under, Code.envs, Code.isFrame, pushEnvs] using e.frames), e.mod, e.bs, e.bsz, e.funs, e.frf, e.hok, e.bare⟩
section
variable {X : Cx} {pins : List (Addr × Obj)} {σ : St} {H : Hp} {s s' : Shared}
theorem Inv.env0 (I : Inv X pins σ H s) : Env0 X.prog X.w X.K X.mg X.base X.A X.stack s H :=
  ⟨I.ok.frames, I.ok.mod, I.bs, Nat.le_trans I.ok.bsz I.sz, I.stack, I.stkFree, I.hok, I.bare⟩
theorem Inv.after {Q : VK} {u : Value} (I : Inv X pins σ H s) (h : CE X.stack X.prog X.w H s Q u s') : EP X pins σ Q u s' := by
  obtain ⟨v, H', os, bare, un, hok, r, q⟩ := h
  obtain ⟨hh, g, d, t, os'⟩ := s'
  obtain rfl : os' = s.os := os
  exact ⟨v, H', I.call (h' := hh) (g' := g) (d' := d) (t' := t) (ch := []) un hok bare (fun b z => absurd z (by simp)), r, q⟩
end
def tCall (sp : Sp) (dvs : List V) (E : XK) (t : TA) : TE := fun σ H Q => t σ H fun vs H1 => sp (vs ++ dvs) H1 Q E
def tMeth (C : Addr) (m : Str) (sp : Sp) (dvs : List V) (E : XK) (ta : TE) (t : TA) : TE := fun σ H Q => ta σ H fun x H1 => ∃ a dx fs, x = .ref a ∧ H1 a = some (.ins C dx fs) ∧ fs.lookup m = none ∧
  t σ H1 fun vs H2 => sp (x :: (vs ++ dvs)) H2 Q E
def tMake (C : Addr) (sp : Sp) (dvs : List V) (E : XK) (t : TA) : TE := fun σ H Q => t σ H fun vs H1 => ∀ x dx, H1 x = none → H1 dx = none → dx ≠ x →
  sp (.ref x :: (vs ++ dvs)) (upd (upd H1 dx (.own x)) x (.ins C dx [])) (fun v H2 => v = .non ∧ Q (.ref x) H2) E
def Binds (K : PySem.W.Frag) (fd : FuncData) (ps : List Str) (ds : List Value) : Prop :=
  ∀ (s : Shared) (us : List Value), K.In s.heap → (us ++ ds).length = ps.length → BindsTo s fd ⟨us, []⟩ (ps.zip (us ++ ds))
theorem Binds.all {K : PySem.W.Frag} {fd : FuncData} {ps : List Str} (h : ∀ us : List Value, us.length = ps.length → bindArgs fd ⟨us, []⟩ = pure (ps.zip us)) : Binds K fd ps [] := fun s us _ hl => by
  rw [List.append_nil] at hl ⊢
  exact .of_eq (h us hl)
def Passes (CX : CXT) (X : Cx) (E : XK) : Prop := ∀ (pins : List (Addr × Obj)) (σ : St) (H : Hp) (s : Shared) (e : Value) (s' : Shared), Inv X pins σ H s → CX X.stack H s E e s' → X.xe e s'
section
variable {X : Cx} {CX : CXT} {k : Nat} {f C : Addr} {fd : FuncData} {ps : List Str} {sp : Sp} {dvs : List V} {ds : List Value} {E : XK} {x m : Str} {p pos apos : Pos} {e o : Expr} {es : List Expr} {ta : TE} {t : TA}
theorem run_fn {pins : List (Addr × Obj)} {σ : St} {H : Hp} {s : Shared} {Q : VK} {us : List Value} {vs : List V} (F : FnOk X.prog X.w X.K X.mg X.base CX k f fd ps sp) (hr : Room k X.A) (hb : Binds X.K fd ps ds) (hd : Vals dvs ds) (hx : Passes CX X E)
    (I : Inv X pins σ H s) (r : Vals vs us) (h : sp (vs ++ dvs) H Q E) : wpAny (model X.prog X.w) X.A (call (.ref f) us) (EP X pins σ Q) X.xe s := by
  have r2 : Vals (vs ++ dvs) (us ++ ds) := r.append hd
  have hl : (us ++ ds).length = ps.length := by rw [← r2.length]; exact F.len _ _ _ _ h
  refine wpAny_call (codeAny_mono (F.run X.A X.stack s H ⟨us, []⟩ (us ++ ds) (vs ++ dvs) Q E hr I.env0 (hb s us I.kIn hl) r2 h) fun r s' hq => ?_)
  cases r with
  | error e => exact hx pins σ H s e s' I hq
  | ok fl =>
    cases fl with
    | ret u => exact I.after hq
    | next => exact False.elim hq
    | brk => exact False.elim hq
    | cont => exact False.elim hq
theorem pe_call (F : FnOk X.prog X.w X.K X.mg X.base CX k f fd ps sp) (hr : Room k X.A) (hg : Gl X x) (hm : X.mg x = some (.ref f)) (hk : PySem.W.keepIn X.K (.ref f) = true) (hb : Binds X.K fd ps ds) (hd : Vals dvs ds) (hx : Passes CX X E)
    (ha : PA X (e :: es) t) (hdb : (x == ("__debug__" : Str)) = false := by decide) (he : starEach (e :: es) X.env = (false, eval e X.env) :: starEach es X.env := by rfl) (hpl : (backTo pos (starEach es X.env)).any (·.1) = false := by rfl) :
    PE X (.Call (.Name x p) (e :: es) [] pos) (tCall sp dvs E t) := by
  intro pins s σ H Q I h
  refine wpAny_Call_Name_kw (ld_glob I hg hm ?_ hdb)
  refine PySem.W.callWith_K (h₀ := X.base) I.ok.mod.kin hk (thn (ha pos pins s σ H _ I h) fun us s1 ⟨vs, H1, I1, r, q⟩ => ⟨I1.kIn, ?_⟩) he hpl
  exact run_fn F hr hb hd hx I1 r q
theorem pe_meth {pl : Sem Bool} (he : PE X o ta) (c : Cls X.K C) (hm : Meth X.K C m f) (F : FnOk X.prog X.w X.K X.mg X.base CX k f fd ps sp) (hr : Room k X.A) (hb : Binds X.K fd ps ds) (hd : Vals dvs ds) (hx : Passes CX X E) (ha : PA X (e :: es) t)
    (hst : starEach (e :: es) X.env = (false, eval e X.env) :: starEach es X.env := by rfl) (hpl : (backTo pos (starEach es X.env)).any (·.1) = false := by rfl)
    (ht : eval (.Call (.Attribute o m apos) (e :: es) [] pos) X.env = (do
      let ov ← eval o X.env
      standAt apos.atName
      let (f, first) ← holding [ov] (getMethod ov m pl)
      callWith pos f first (backTo pos (starEach (e :: es) X.env)) (backToKw pos (keywordEach [] X.env))) := by rfl) :
    PE X (.Call (.Attribute o m apos) (e :: es) [] pos) (tMeth C m sp dvs E ta t) := by
  intro pins s σ H Q I h
  refine PySem.W.methodCall_KW (pl := pl) (thn (he pins s σ H _ I h) fun u s1 ⟨x, H1, I1, rx, a, dx, fs, ex, ea, l, q⟩ => ?_) ht
  subst ex
  obtain rfl : u = Value.ref a := rx
  refine getmeth_ok I1 ea c hm l ?_
  refine PySem.W.callWith_K (first := [.ref a]) (h₀ := X.base) I.ok.mod.kin hm.kp (thn (ha pos pins s1 σ H1 _ I1 q) fun us s2 ⟨vs, H2, I2, r, q2⟩ => ⟨I2.kIn, ?_⟩) hst hpl
  exact run_fn (us := .ref a :: us) (vs := .ref a :: vs) F hr hb hd hx I2 (.cons rfl r) q2
theorem pe_meth0 {pl : Sem Bool} (he : PE X o ta) (c : Cls X.K C) (hm : Meth X.K C m f) (F : FnOk X.prog X.w X.K X.mg X.base CX k f fd ps sp) (hr : Room k X.A) (hb : Binds X.K fd ps ds) (hd : Vals dvs ds) (hx : Passes CX X E)
    (ht : eval (.Call (.Attribute o m apos) [] [] pos) X.env = (do
      let ov ← eval o X.env
      standAt apos.atName
      let (f, first) ← holding [ov] (getMethod ov m pl)
      callWith pos f first (backTo pos (starEach [] X.env)) (backToKw pos (keywordEach [] X.env))) := by rfl) :
    PE X (.Call (.Attribute o m apos) [] [] pos) (tMeth C m sp dvs E ta tNil) := by
  intro pins s σ H Q I h
  refine PySem.W.methodCall_KW (pl := pl) (thn (he pins s σ H _ I h) fun u s1 ⟨x, H1, I1, rx, a, dx, fs, ex, ea, l, q⟩ => ?_) ht
  subst ex
  obtain rfl : u = Value.ref a := rx
  refine getmeth_ok I1 ea c hm l ?_
  exact PySem.W.callWith_K0 (first := [.ref a]) I1.kIn hm.kp (run_fn (us := [.ref a]) (vs := [.ref a]) F hr hb hd hx I1 (.cons rfl .nil) q)
structure Mk (K : PySem.W.Frag) (C f : Addr) : Prop where
  makes : PySem.W.makesIn K C = true
  init : PySem.W.findIn K (.ref C) "__init__" = some (some (.ref f))
  fn : PySem.W.isFn K (.ref f) = true
  kp : PySem.W.keepIn K (.ref C) = true
theorem run_make {pins : List (Addr × Obj)} {σ : St} {H : Hp} {s : Shared} {Q : VK} {us : List Value} {vs : List V} (M : Mk X.K C f) (F : FnOk X.prog X.w X.K X.mg X.base CX k f fd ps sp) (hr : Room (k + 1) X.A) (hb : Binds X.K fd ps ds) (hd : Vals dvs ds)
    (hx : Passes CX X E) (I : Inv X pins σ H s) (r : Vals vs us)
    (h : ∀ x dx, H x = none → H dx = none → dx ≠ x → sp (.ref x :: (vs ++ dvs)) (upd (upd H dx (.own x)) x (.ins C dx [])) (fun v H2 => v = .non ∧ Q (.ref x) H2) E) :
    wpAny (model X.prog X.w) X.A (call (.ref C) us) (EP X pins σ Q) X.xe s := by
  have hq := h (s.heap.objs.size + 1) s.heap.objs.size (I.hok.fresh (Nat.le_succ _)) (I.hok.fresh (Nat.le_refl _)) (Nat.ne_of_lt (Nat.lt_succ_self _))
  have I2 := Inv.made (C := C) I
  have r2 : Vals (V.ref (s.heap.objs.size + 1) :: (vs ++ dvs)) (Value.ref (s.heap.objs.size + 1) :: (us ++ ds)) := .cons rfl (r.append hd)
  have hl : (Value.ref (s.heap.objs.size + 1) :: us ++ ds).length = ps.length := by
    have e := r2.length
    rw [F.len _ _ _ _ hq] at e
    exact e.symm
  refine wpAny_call (make_map (f := f) I.kIn M.makes M.init (beq_iff_eq.mp M.fn) (codeAny_mono (F.run _ X.stack _ _ ⟨Value.ref (s.heap.objs.size + 1) :: us, []⟩ (Value.ref (s.heap.objs.size + 1) :: (us ++ ds)) _ _ E (hr.make C us [])
    (I2.env0.make C us []) (hb _ (Value.ref (s.heap.objs.size + 1) :: us) I2.kIn hl) r2 hq) fun r s' hq' => ?_))
  cases r with
  | error e => exact hx pins σ _ _ e s' I2 hq'
  | ok fl =>
    cases fl with
    | ret u =>
      obtain ⟨v, H', I3, rv, ev, q3⟩ := I2.after hq'
      subst ev
      exact ⟨rv, ⟨V.ref (s.heap.objs.size + 1), H', I3, rfl, q3⟩⟩
    | next => exact False.elim hq'
    | brk => exact False.elim hq'
    | cont => exact False.elim hq'
theorem pe_make (M : Mk X.K C f) (F : FnOk X.prog X.w X.K X.mg X.base CX k f fd ps sp) (hr : Room (k + 1) X.A) (hg : Gl X x) (hm : X.mg x = some (.ref C)) (hb : Binds X.K fd ps ds) (hd : Vals dvs ds) (hx : Passes CX X E)
    (ha : PA X (e :: es) t) (hdb : (x == ("__debug__" : Str)) = false := by decide) (he : starEach (e :: es) X.env = (false, eval e X.env) :: starEach es X.env := by rfl) (hpl : (backTo pos (starEach es X.env)).any (·.1) = false := by rfl) :
    PE X (.Call (.Name x p) (e :: es) [] pos) (tMake C sp dvs E t) := by
  intro pins s σ H Q I h
  refine wpAny_Call_Name_kw (ld_glob I hg hm ?_ hdb)
  refine PySem.W.callWith_K (h₀ := X.base) I.ok.mod.kin M.kp (thn (ha pos pins s σ H _ I h) fun us s1 ⟨vs, H1, I1, r, q⟩ => ⟨I1.kIn, ?_⟩) he hpl
  exact run_make M F hr hb hd hx I1 r q
end
section
variable {X : Cx} {CX : CXT} {k : Nat} {f C : Addr} {fd : FuncData} {ps ks : List Str} {sp : Sp} {E : XK} {x m : Str} {p pos apos kpos : Pos} {e o : Expr} {es : List Expr} {kws : List Keyword} {te ta : TE} {t tk : TA} {nm : Option Str}
variable {g : List Value → List Value → List Value} {gV : List V → List V → List V}
end
structure FnScope (N P : List Str) (sc : Scope) : Prop where
  kind : sc.kind = .function
  co : sc.isCoroutine = false
  gen : sc.isGenerator = false
  nd : N.Nodup
  pre : N.take P.length = P
  par : ∀ x ∈ P, sc.names.lookup x = some .local ∨ sc.names.lookup x = some .cell
  nofree : ∀ y ∈ sc.names, y.2 ≠ .free
theorem bindL_out {kindOf : Str → Option NameKind} {x : Str} : ∀ {binds : List (Str × Value)} {m : Str → Option Value}, (∀ v, (x, v) ∉ binds) → bindL kindOf binds m x = m x
  | [], _, _ => rfl
  | (n, v) :: r, m, h => by
    unfold bindL
    rw [bindL_out fun w hw => h w (List.mem_cons_of_mem _ hw)]
    split
    · have : x ≠ n := by rintro rfl; exact h v List.mem_cons_self
      simp [this]
    · rfl
theorem bindC_out {kindOf : Str → Option NameKind} {x : Str} : ∀ {binds : List (Str × Value)} {m : Str → Option Value}, (∀ v, (x, v) ∉ binds) → bindC kindOf binds m x = m x
  | [], _, _ => rfl
  | (n, v) :: r, m, h => by
    unfold bindC
    rw [bindC_out fun w hw => h w (List.mem_cons_of_mem _ hw)]
    split
    · rfl
    · have : x ≠ n := by rintro rfl; exact h v List.mem_cons_self
      simp [this]
theorem bindL_get {kindOf : Str → Option NameKind} {x : Str} {v : Value} : ∀ {P : List Str} {vs : List Value} {i : Nat} {m : Str → Option Value}, P.Nodup → P[i]? = some x → vs[i]? = some v → kindOf x = some .local →
    bindL kindOf (P.zip vs) m x = some v
  | [], _, _, _, _, h, _, _ => by simp at h
  | _ :: _, [], _, _, _, _, h, _ => by simp at h
  | p :: P, w :: vs, 0, m, nd, h1, h2, hk => by
    simp at h1 h2; subst h1; subst h2
    show bindL kindOf ((p, w) :: P.zip vs) m p = _
    unfold bindL
    rw [bindL_out fun v hv => (List.nodup_cons.mp nd).1 (List.of_mem_zip hv).1, if_pos hk]
    simp
  | p :: P, w :: vs, i + 1, m, nd, h1, h2, hk => by
    show bindL kindOf ((p, w) :: P.zip vs) m x = _
    unfold bindL
    exact bindL_get (i := i) (List.nodup_cons.mp nd).2 (by simpa using h1) (by simpa using h2) hk
theorem bindC_get {kindOf : Str → Option NameKind} {x : Str} {v : Value} : ∀ {P : List Str} {vs : List Value} {i : Nat} {m : Str → Option Value}, P.Nodup → P[i]? = some x → vs[i]? = some v → kindOf x ≠ some .local →
    bindC kindOf (P.zip vs) m x = some v
  | [], _, _, _, _, h, _, _ => by simp at h
  | _ :: _, [], _, _, _, _, h, _ => by simp at h
  | p :: P, w :: vs, 0, m, nd, h1, h2, hk => by
    simp at h1 h2; subst h1; subst h2
    show bindC kindOf ((p, w) :: P.zip vs) m p = _
    unfold bindC
    rw [bindC_out fun v hv => (List.nodup_cons.mp nd).1 (List.of_mem_zip hv).1, if_neg hk]
    simp
  | p :: P, w :: vs, i + 1, m, nd, h1, h2, hk => by
    show bindC kindOf ((p, w) :: P.zip vs) m x = _
    unfold bindC
    exact bindC_get (i := i) (List.nodup_cons.mp nd).2 (by simpa using h1) (by simpa using h2) hk
def start (N : List Str) (vs : List V) : St := vs.map some ++ List.replicate (N.length - vs.length) none
def cxOf (CX : CXT) (P : Program) (w : World) (K : PySem.W.Frag) (mg : Str → Option Value) (base : Heap) (N : List Str) (qual : Str) (scope : Scope) (f : Addr) (cd : Value) (A : Around) (outer : List Env) (s : Shared) (H : Hp) (E : XK) : Cx where
  prog := P
  w := w
  K := K
  mg := mg
  base := base
  A := A.deeper (envOfC qual scope s.heap.objs.size f cd)
  N := N
  s₀ := s
  H₀ := H
  env := envOfC qual scope s.heap.objs.size f cd
  outer := outer
  stack := envOfC qual scope s.heap.objs.size f cd :: outer
  ex := []
  calm := true
  fn := fun _ => true
  pn := []
  xe := fun e s' => wpAny (model P w) (A.deeper (envOfC qual scope s.heap.objs.size f cd)) (leaving (envOfC qual scope s.heap.objs.size f cd) e) (fun _ s'' => CX outer H s E e s'') (fun e' s'' => CX outer H s E e' s'') s'
theorem cell_has {sc : Scope} {n : Nat} {x : Str} (h : sc.names.lookup x = some .cell) : ∃ c, (cellsFrom n sc.names []).lookup x = some c := by
  have q := PySem.W.cellsFrom_some sc.names n [] (.inl h)
  exact Option.isSome_iff_exists.mp q
theorem inv_start {CX : CXT} {P : Program} {w : World} {K : PySem.W.Frag} {mg : Str → Option Value} {base : Heap} {N ps : List Str} {qual : Str} {scope : Scope} {f : Addr} {cd : Value} {A : Around} {outer : List Env} {s s1 : Shared} {H : Hp} {E : XK} {us : List Value} {vs : List V}
    (S : FnScope N ps scope) (hd : A.handled = none) (e0 : Env0 P w K mg base A outer s H) (hl : vs.length = ps.length) (r : Vals vs us)
    (x : InCallC s s.heap.objs.size (bindL (envOfC qual scope s.heap.objs.size f cd).kindOf (ps.zip us) fun _ => none) (cellsFrom (s.heap.objs.size + 1) scope.names []) (bindC (envOfC qual scope s.heap.objs.size f cd).kindOf (ps.zip us) fun _ => none) s1) :
    Inv (cxOf CX P w K mg base N qual scope f cd A outer s H E) [] (start N vs) H s1 := by
  have hpl : ps.length ≤ N.length := by have := congrArg List.length S.pre; rw [List.length_take] at this; omega
  obtain ⟨h1, tk, rfl, hk⟩ := x.done
  have noA : ∀ b : Addr, b ∉ (cxOf CX P w K mg base N qual scope f cd A outer s H E).ex := fun b z => absurd (show b ∈ ([] : List Addr) from z) (by simp)
  refine ⟨⟨e0.mod, S.kind, rfl, rfl, Nat.le_refl _, fun y z c h1 h2 => ?_, fun y hy => ?_, fun y c _ h => ?_, fun _ => hd, Around.frames_deeper e0.frames, .inr ⟨rfl, rfl⟩, fun b z => absurd z (noA b), e0.bs, e0.bsz, fun b _ _ => noA b, fun b z => absurd z (noA b), e0.funs, e0.frf⟩,
    rfl, e0.bare, Un.kept hk, ⟨_, x.toInCall.ns, fun i y v h1 h2 h3 => ?_⟩, fun y c h => ⟨_, x.cell y c h⟩, e0.hok.fresh (Nat.le_refl _), fun y c h => ?_, fun p hp => absurd (show p ∈ ([] : List (Addr × Obj)) from hp) (by simp), e0.hok.kept hk, ?_⟩
  · exact name_of_addr x.apart (PySem.mem_of_lookup h1) (PySem.mem_of_lookup h2)
  · have hy : scope.names.lookup y = some .cell ∨ scope.names.lookup y = some .free := hy
    rcases hy with hy | hy
    · exact cell_has hy
    · exact absurd rfl (S.nofree _ (PySem.mem_of_lookup hy))
  · exact Nat.le_of_lt (x.above y c (PySem.mem_of_lookup h))
  · have hi : i < vs.length := by
      unfold start at h2
      by_cases hi : i < vs.length
      · exact hi
      · rw [List.getElem?_append_right (by simpa using hi)] at h2
        rw [List.getElem?_replicate] at h2
        split at h2 <;> cases h2
    have ha : vs[i]? = some v := by
      unfold start at h2
      rw [List.getElem?_append_left (by simpa using hi), List.getElem?_map] at h2
      cases e : vs[i]? with
      | none => rw [e] at h2; cases h2
      | some a => rw [e] at h2; cases h2; rfl
    obtain ⟨u, hu, rv⟩ := r.get ha
    have hp : ps[i]? = some y := by
      rw [← S.pre, List.getElem?_take_of_lt (by omega)]; exact h1
    have ndP : ps.Nodup := by rw [← S.pre]; exact S.nd.sublist (List.take_sublist _ _)
    refine ⟨u, rv, ?_⟩
    rcases S.par y (List.mem_of_getElem? hp) with k | k
    · exact .inl ⟨k, bindL_get ndP hp hu k⟩
    · obtain ⟨c, e⟩ := cell_has (n := s.heap.objs.size + 1) k
      refine .inr ⟨.inl k, c, e, ?_⟩
      have q := x.cell y c e
      rw [bindC_get ndP hp hu (by show scope.names.lookup y ≠ _; rw [k]; decide)] at q
      exact q
  · exact e0.hok.fresh (Nat.le_of_lt (x.above y c (PySem.mem_of_lookup h)))
  · unfold start
    show _ = N.length
    rw [List.length_append, List.length_map, List.length_replicate]
    omega
theorem fn_of {CX : CXT} {P : Program} {w : World} {K : PySem.W.Frag} {mg : Str → Option Value} {base : Heap} {k : Nat} {f : Addr} {name qual : Str} {params : Arguments} {body : List Stmt} {scope : Scope} {dV kV doc pm cdv ct oc : Value} {an od : Option Addr}
    {osl : Array (Option Value)} {N ps : List Str} {sp : Sp} (lk : K.lookup f = some ⟨oc, od, .func (PySem.W.fnOf name qual params body scope dV kV doc pm an cdv ct), osl⟩) (hcd : PySem.W.codeIn K cdv qual = true) (S : FnScope N ps scope)
    (len : ∀ vs H Q E, sp vs H Q E → vs.length = ps.length)
    (hbody : ∀ (A : Around) (outer : List Env) (s : Shared) (H : Hp) (vs : List V) (Q : VK) (E : XK), Room k (A.deeper (envOfC qual scope s.heap.objs.size f cdv)) → sp vs H Q E →
      ∃ t, PSs (cxOf CX P w K mg base N qual scope f cdv A outer s H E) body t ∧ t { nx := fun _ H' => Q .non H', rt := Q } (start N vs) H) :
    FnOk P w K mg base CX (k + 1) f (PySem.W.fnOf name qual params body scope dV kV doc pm an cdv ct) ps sp := by
  refine ⟨len, fun A outer s H args us vs Q E hr e0 hb r hsp => ?_⟩
  have hl := len _ _ _ _ hsp
  have KX : K.In s.heap := e0.mod.kin.keeps fun b o e => (e0.bs b o e).1
  have lim : s.heap.NoLimit := e0.mod.nolimit.keeps fun b o e => (e0.bs b o e).1
  have hkind : ∀ y ∈ ps.zip us, scope.names.lookup y.1 = some .local ∨ (scope.names.lookup y.1 = some .cell ∧ ((cellsFrom (s.heap.objs.size + 1) scope.names []).lookup y.1).isSome = true) := fun ⟨n, v⟩ hy => by
    rcases S.par n (List.of_mem_zip hy).1 with q | q
    · exact .inl q
    · exact .inr ⟨q, PySem.W.cellsFrom_some _ _ _ (.inl q)⟩
  refine codeAny_call_function hr.depth (KX _ _ lk) rfl S.co S.gen rfl (PySem.W.codeRec_of KX hcd) (hb _ _ _ _ ?_)
  refine wpAny_newFunctionEnv_cells S.kind hkind fun env he s1 x => ?_
  subst he
  refine ⟨lim.keeps x.toInCall.keep, codeAny_func ?_⟩
  obtain ⟨t, ht, hq⟩ := hbody A outer s H vs Q E (hr.deeper _) hsp
  have I : Inv (cxOf CX P w K mg base N qual scope f cdv A outer s H E) [] (start N vs) H s1 := inv_start S hr.hd e0 hl r x
  refine wpAny_mono (ht [] s1 (start N vs) H _ I hq) (fun fl s' hs => ?_) fun e s' hs => hs
  have fin : ∀ {σ' : St} {H' : Hp} {v : V} {u : Value}, Inv (cxOf CX P w K mg base N qual scope f cdv A outer s H E) [] σ' H' s' → RelV v u → Q v H' → CE outer P w H s Q u s' :=
    fun {σ' H' v u} J rv q => ⟨v, H', J.os, J.bare, J.base, J.hok, rv, q⟩
  cases fl with
  | ret u =>
    obtain ⟨v, σ', H', J, rv, q⟩ := hs
    exact fin J rv q
  | next =>
    obtain ⟨σ', H', J, q⟩ := hs
    exact fin (v := V.non) (u := Value.none) J rfl q
  | brk =>
    obtain ⟨_, _, _, q⟩ := hs
    exact False.elim q
  | cont =>
    obtain ⟨_, _, _, q⟩ := hs
    exact False.elim q
end L2
namespace L2
open PySem PySem.Spec PyProof.Rows
section
variable {X : Cx} {x : Str} {p pos : Pos} {e : Expr} {es : List Expr} {t : TA} {id T : String} {r : List V → Hp → VK → Prop}
def tCB (r : List V → Hp → VK → Prop) (t : TA) : TE := fun σ H Q => t σ H fun vs H1 => r vs H1 Q
theorem pe_callB (hc : CallR X (.builtin id) r) (hg : Gl X x) (hm : X.mg x = none) (hv : bootBuiltins x = some (.builtin id)) (ha : PA X (e :: es) t) (hn : x ≠ "__name__" := by decide) (hdb : (x == ("__debug__" : Str)) = false := by decide)
    (he : starEach (e :: es) X.env = (false, eval e X.env) :: starEach es X.env := by rfl) (hpl : (backTo pos (starEach es X.env)).any (·.1) = false := by rfl) : PE X (.Call (.Name x p) (e :: es) [] pos) (tCB r t) := by
  intro pins s σ H Q I h
  refine wpAny_Call_Name_kw (ld_blt I hg hm hv ?_ hn hdb)
  exact PyProof.Rows.callWith_builtin1 (thn (ha pos pins s σ H _ I h) fun us s1 ⟨vs, H1, I1, r1, q1⟩ => hc pins s1 σ H1 vs us Q I1 r1 q1) he hpl
theorem pe_callTy (hc : CallR X (.type T) r) (hg : Gl X x) (hm : X.mg x = none) (hv : bootBuiltins x = some (.type T)) (ha : PA X (e :: es) t) (hn : x ≠ "__name__" := by decide) (hdb : (x == ("__debug__" : Str)) = false := by decide)
    (he : starEach (e :: es) X.env = (false, eval e X.env) :: starEach es X.env := by rfl) (hpl : (backTo pos (starEach es X.env)).any (·.1) = false := by rfl) : PE X (.Call (.Name x p) (e :: es) [] pos) (tCB r t) := by
  intro pins s σ H Q I h
  refine wpAny_Call_Name_kw (ld_blt I hg hm hv ?_ hn hdb)
  exact PyProof.Rows.callWith_type1 (thn (ha pos pins s σ H _ I h) fun us s1 ⟨vs, H1, I1, r1, q1⟩ => hc pins s1 σ H1 vs us Q I1 r1 q1) he hpl
end
end L2
namespace HT
open PySem PyProof.Rows
section
open PySem.SeqAt
open PySem.AutoSeq1 (wpAny_loadPart')
open PySem.MeetsSeq PySem.MeetsSeq2 PySem.MeetsSeq3
end
section
variable {prog : Program} {w : World} {A : Around} {E : Value → Shared → Prop} {s : Shared}
def sIx (n d : Nat) : Option Int → Nat
  | none => d
  | some v => if v < 0 then (v + (n : Int)).toNat else min v.toNat n
theorem sIx_nat (n d k : Nat) : sIx n d (some (k : Int)) = min k n := by
  show (if (k : Int) < 0 then ((k : Int) + (n : Int)).toNat else min (k : Int).toNat n) = min k n
  rw [if_neg (by omega), Int.toNat_natCast]
theorem sIx_le (n d : Nat) (hd : d ≤ n) (o : Option Int) : sIx n d o ≤ n := by
  cases o with
  | none => exact hd
  | some v =>
    show (if v < 0 then (v + (n : Int)).toNat else min v.toNat n) ≤ n
    by_cases hv : v < 0
    · rw [if_pos hv]; omega
    · rw [if_neg hv]; exact Nat.min_le_right _ _
theorem clip_eq (v : Int) (n d : Nat) : (if v < 0 then max (v + (n : Int)) 0 else min v (n : Int)) = ((sIx n d (some v) : Nat) : Int) := by
  show (if v < 0 then max (v + (n : Int)) 0 else min v (n : Int)) = (((if v < 0 then (v + (n : Int)).toNat else min v.toNat n) : Nat) : Int)
  by_cases hv : v < 0
  · simp only [if_pos hv]; omega
  · simp only [if_neg hv]; omega
theorem adjust_gen (lo hi : Option Int) (n : Nat) : Builtin.Slice.sliceAdjust lo hi 1 (n : Int) = (((sIx n 0 lo : Nat) : Int), ((sIx n n hi : Nat) : Int)) := by
  have h1 : ¬ ((1 : Int) < 0) := by omega
  unfold Builtin.Slice.sliceAdjust
  simp only [h1, if_false]
  refine Prod.ext ?_ ?_
  · cases lo with
    | none => rfl
    | some v => exact clip_eq v n 0
  · cases hi with
    | none => rfl
    | some v => exact clip_eq v n n
theorem places_gen (i j : Nat) : Builtin.Slice.slicePlaces (i : Int) (j : Int) 1 = j - i := by
  unfold Builtin.Slice.slicePlaces
  have h1 : (1 : Int) > 0 := by omega
  simp only [h1, if_true, Int.ediv_one]
  split <;> omega
theorem slicePart_ {v : Value} {o : Option Int} {Q : Option Int → Shared → Prop} (p : IsPart v o) (h : Q o s) : wpAny (model prog w) A (Builtin.Slice.slicePartIndex v) Q E s := by
  cases p with
  | none => exact slicePart_none h
  | int i t => exact slicePart_int h
theorem sliceApplied_gen {sl : Addr} {vl vu : Value} {lo hi : Option Int} {n : Nat} {Q : Int × Int × Nat → Shared → Prop} (hs : s.heap.IsSliceOf sl vl vu .none) (pl : IsPart vl lo) (pu : IsPart vu hi)
    (h : Q (((sIx n 0 lo : Nat) : Int), 1, sIx n n hi - sIx n 0 lo) s) : wpAny (model prog w) A (Builtin.Slice.sliceApplied (.ref sl) (pure (n : Int))) Q E s := by
  obtain ⟨os, hos, hcs, hds⟩ := id hs
  unfold Builtin.Slice.sliceApplied Builtin.Slice.sliceFields
  refine wpAny_bind (wpAny_bind (wpAny_field hos hds (x := vl) rfl (wpAny_bind (wpAny_field hos hds (x := vu) rfl (wpAny_bind (wpAny_field hos hds (x := .none) rfl (wpAny_pure ?_)))))))
  refine wpAny_bind (slicePart_none ?_)
  show wpAny _ _ (if ((1 : Int) == 0) = true then _ else _) _ _ s
  rw [if_neg (by decide)]
  refine wpAny_bind (slicePart_ pl (wpAny_bind (slicePart_ pu (wpAny_bind (wpAny_pure ?_)))))
  show wpAny _ _ (match Builtin.Slice.sliceAdjust lo hi 1 (n : Int) with | (lo, hi) => pure (lo, (1 : Int), Builtin.Slice.slicePlaces lo hi 1)) _ _ s
  rw [adjust_gen lo hi n]
  show wpAny _ _ (pure (((sIx n 0 lo : Nat) : Int), (1 : Int), Builtin.Slice.slicePlaces ((sIx n 0 lo : Nat) : Int) ((sIx n n hi : Nat) : Int) 1)) _ _ s
  rw [places_gen]
  exact wpAny_pure h
theorem pick_gen (xs : Array Value) (i k : Nat) : ((List.range k).filterMap fun (m : Nat) => xs[((i : Int) + (m : Int) * 1).toNat]?).toArray = ((xs.toList.drop i).take k).toArray := by
  have e : (fun (m : Nat) => xs[((i : Int) + (m : Int) * 1).toNat]?) = fun m => xs[i + m]? := by
    funext m
    have : ((i : Int) + (m : Int) * 1).toNat = i + m := by omega
    rw [this]
  rw [e]
  have := pick_run xs i k
  rw [List.filterMap_map] at this
  have e2 : ((fun x => xs[x]?) ∘ fun x => i + x) = fun m => xs[i + m]? := rfl
  rw [e2] at this
  rw [this]
theorem getItem_tuple_cut {t sl : Addr} {items : Array Value} {vl vu : Value} {lo hi : Option Int} {Q : Value → Shared → Prop} (ht : IsTup s.heap t items) (hs : s.heap.IsSliceOf sl vl vu .none) (pl : IsPart vl lo) (pu : IsPart vu hi)
    (hw : ¬ (sIx items.size 0 lo = 0 ∧ sIx items.size items.size hi = items.size))
    (h : Q (.ref s.heap.objs.size) { s with heap := s.heap.push { cls := .type "tuple", data := .seq ((items.toList.drop (sIx items.size 0 lo)).take (sIx items.size items.size hi - sIx items.size 0 lo)).toArray } })
    (hsz : items.size ≤ sizeLine) : wpAny (model prog w) A (getItem (.ref t) (.ref sl)) Q E s := by
  have htake : sizeOk (.seq ((items.toList.drop (sIx items.size 0 lo)).take (sIx items.size items.size hi - sIx items.size 0 lo)).toArray) := by
    show ((items.toList.drop (sIx items.size 0 lo)).take (sIx items.size items.size hi - sIx items.size 0 lo)).toArray.size ≤ sizeLine
    rw [List.size_toArray, List.length_take, List.length_drop, Array.length_toList]
    omega
  have hj : sIx items.size items.size hi ≤ items.size := sIx_le _ _ (Nat.le_refl _) hi
  obtain ⟨os, hos, hcs, hds⟩ := id hs
  have hTs : s.TypeIs (.ref sl) "slice" := ⟨os, hos, hcs⟩
  unfold getItem
  try with_reducible refine wpAny_holding ?_
  first | refine wpAny_bind (wpAny_pure ?_) | skip
  refine wpAny_bind (wpAny_sequenceKey ht.typeIs (by decide) ?_)
  refine wpAny_bind (wpAny_callSpecial?_slot (name := Str.ofString "__getitem__") ht.typeIs PyProof.Rows.slot_tuple_getitem
    (wpAny_call_entry PyProof.Rows.slot_tuple_getitem ht.typeIs entry_tuple_getitem ?_ (args_tuple_getitem _ _)))
  show wpAny _ _ (Builtin.Tuple.tupleItemsOf (.ref t) >>= _) _ _ s
  refine wpAny_bind (tupleItemsOf_ ht ?_)
  refine wpAny_bind (wpAny_typeOf hTs ?_)
  rw [if_pos (by decide)]
  refine wpAny_bind (sliceApplied_gen hs pl pu ?_)
  have hno : ¬ ((((sIx items.size 0 lo : Nat) : Int) == 0 && (1 : Int) == 1 && (sIx items.size items.size hi - sIx items.size 0 lo) == items.size) = true) := by
    intro q
    rw [Bool.and_eq_true, Bool.and_eq_true] at q
    have q1 : ((sIx items.size 0 lo : Nat) : Int) = 0 := eq_of_beq q.1.1
    have q2 : sIx items.size items.size hi - sIx items.size 0 lo = items.size := eq_of_beq q.2
    exact hw ⟨by omega, by omega⟩
  show wpAny _ _ (if (((sIx items.size 0 lo : Nat) : Int) == 0 && (1 : Int) == 1 && (sIx items.size items.size hi - sIx items.size 0 lo) == items.size) = true then _ else _) _ _ s
  rw [if_neg hno, pick_gen]
  first
    | exact wpAny_bind (m := Builtin.Tuple.tupleExact _) (wpAny_newObj_type (wpAny_pure ⟨_, rfl, wpAny_pure h⟩) htake)
    | exact wpAny_bind (m := Builtin.Tuple.tupleExact _) (wpAny_newObj_type (wpAny_bind (wpAny_pure (wpAny_pure ⟨_, rfl, wpAny_pure h⟩))) htake)
    | exact wpAny_bind (wpAny_bind (m := Builtin.Tuple.tupleExact _) (wpAny_newObj_type (wpAny_pure (wpAny_pure ⟨_, rfl, wpAny_pure h⟩)) htake))
    | exact wpAny_bind (wpAny_bind (m := Builtin.Tuple.tupleExact _) (wpAny_newObj_type (wpAny_pure ⟨_, rfl, wpAny_pure h⟩) htake))
end
end HT
namespace L2
open PySem PySem.Spec PyProof.Rows
abbrev TO := St → Hp → (Option Int → Hp → Prop) → Prop
def PO (X : Cx) (e : Option Expr) (t : TO) : Prop :=
  ∀ (pins : List (Addr × Obj)) (s : Shared) (σ : St) (H : Hp) (Q : Option Int → Hp → Prop), Inv X pins σ H s → t σ H Q →
    wpAny (model X.prog X.w) X.A (evalPart e X.env) (fun u s' => ∃ o H', Inv X pins σ H' s' ∧ IsPart u o ∧ Q o H') X.xe s
def tNoPart : TO := fun _ H Q => Q none H
def tPart (t : TE) : TO := fun σ H Q => t σ H fun x H1 => ∃ i, x = .int i ∧ Q (some i) H1
section
variable {X : Cx} {e : Expr} {te : TE} {lo hi : Option Expr} {tl th : TO} {pos p2 : Pos}
theorem po_none : PO X none tNoPart := by
  intro pins s σ H Q I h
  rw [evalPart_none]
  exact wpAny_pure ⟨none, H, I, .none, h⟩
theorem po_some (h : PE X e te) : PO X (some e) (tPart te) := by
  intro pins s σ H Q I hw
  rw [evalPart_some]
  refine thn (h pins s σ H _ I hw) fun u s1 ⟨x, H1, I1, r1, q1⟩ => ?_
  obtain ⟨i, rfl, q⟩ := q1
  obtain ⟨t, rfl⟩ := r1
  exact ⟨some i, H1, I1, .int i t, q⟩
def SlR (X : Cx) (r : V → Option Int → Option Int → Hp → VK → Prop) : Prop :=
  ∀ (pins : List (Addr × Obj)) (s : Shared) (σ : St) (H : Hp) (x : V) (v vl vu : Value) (lo hi : Option Int) (sl : Addr) (Q : VK), Inv X pins σ H s → RelV x v → s.heap.IsSliceOf sl vl vu .none → IsPart vl lo → IsPart vu hi → r x lo hi H Q →
    ∃ T id, typeLookup (.type T) "__getitem__" = pure (some (.builtin id)) ∧ s.TypeIs v T ∧ wpAny (model X.prog X.w) X.A (getItem v (.ref sl)) (EP X pins σ Q) X.xe s
theorem SlR.or {r r' : V → Option Int → Option Int → Hp → VK → Prop} (h : SlR X r) (h' : SlR X r') : SlR X (fun x lo hi H Q => r x lo hi H Q ∨ r' x lo hi H Q) := by
  intro pins s σ H x v vl vu lo hi sl Q I rx hs pl pu q
  rcases q with q | q
  · exact h pins s σ H x v vl vu lo hi sl Q I rx hs pl pu q
  · exact h' pins s σ H x v vl vu lo hi sl Q I rx hs pl pu q
def tSl (r : V → Option Int → Option Int → Hp → VK → Prop) (te : TE) (tl th : TO) : TE := fun σ H Q => te σ H fun x H1 => tl σ H1 fun l H2 => th σ H2 fun u H3 => r x l u H3 Q
theorem pe_slice {r : V → Option Int → Option Int → Hp → VK → Prop} (hr : SlR X r) (he : PE X e te) (hl : PO X lo tl) (hu : PO X hi th) : PE X (.Subscript e (.Slice lo hi none p2) pos) (tSl r te tl th) := by
  intro pins s σ H Q I h
  refine Subscript_ (thn (he pins s σ H _ I h) fun v s1 ⟨x, H1, I1, r1, q1⟩ => ?_)
  refine wpAny_Slice (thn (hl pins s1 σ H1 _ I1 q1) fun vl s2 ⟨l, H2, I2, pl, q2⟩ => thn (hu pins s2 σ H2 _ I2 q2) fun vu s3 ⟨u, H3, I3, pu, q3⟩ => ?_)
  rw [evalPart_none]
  refine wpAny_pure ?_
  have I4 : Inv X pins σ H3 { s3 with heap := s3.heap.push { cls := .type "slice", data := .fields #[vl, vu, .none] } } := I3.kept (t' := s3.toks) fun b ob q => Heap.get?_push_of_some _ q
  obtain ⟨T, id, hT, ht, hg⟩ := hr pins { s3 with heap := s3.heap.push { cls := .type "slice", data := .fields #[vl, vu, .none] } } σ H3 x v vl vu l u s3.heap.objs.size Q I4 r1 (Heap.IsSliceOf.new ..) pl pu q3
  show wpAny (model X.prog X.w) X.A (subscriptTail e (.Slice lo hi none p2) v (.ref s3.heap.objs.size)) (EP X pins σ Q) X.xe { s3 with heap := s3.heap.push { cls := .type "slice", data := .fields #[vl, vu, .none] } }
  exact tail_any (ops := [.ref s3.heap.objs.size, v]) ht hT hg (by with_unfolding_all rfl)
def cutV (xs : List V) (lo hi : Option Int) : List V := (xs.drop (HT.sIx xs.length 0 lo)).take (HT.sIx xs.length xs.length hi - HT.sIx xs.length 0 lo)
theorem cutV_length (xs : List V) (lo hi : Option Int) : (cutV xs lo hi).length ≤ xs.length := by
  unfold cutV
  rw [List.length_take, List.length_drop]
  omega
def rSlT (K : PySem.W.Frag) : V → Option Int → Option Int → Hp → VK → Prop := fun x lo hi H Q => ∃ a xs, x = .ref a ∧ SqT K H a xs ∧
  ¬ (HT.sIx xs.length 0 lo = 0 ∧ HT.sIx xs.length xs.length hi = xs.length) ∧ ∀ p, H p = none → Q (.ref p) (upd H p (.tup (cutV xs lo hi)))
theorem sl_tup : SlR X (rSlT X.K) := by
  intro pins s σ H x v vl vu lo hi sl Q I rx hs pl pu h
  obtain ⟨a, xs, rfl, hx, hw, q⟩ := h
  cases rx
  obtain ⟨its, r, ht, hz⟩ := I.tuple hx
  have hlen : its.toArray.size = xs.length := by rw [List.size_toArray]; exact r.length.symm
  refine ⟨"tuple", _, PyProof.Rows.slot_tuple_getitem.lookup, ht.typeIs, ?_⟩
  refine HT.getItem_tuple_cut ht hs pl pu (by rw [hlen]; exact hw) ?_ (by rw [hlen]; exact hz)
  rw [hlen]
  refine ⟨.ref s.heap.objs.size, _, I.laid (t' := s.toks) (o := .tup (cutV xs lo hi)) (fun b ob q => Heap.get?_push_of_some _ q) (Nat.le_refl _) ?_, rfl, q _ (I.hok.fresh (Nat.le_refl _))⟩
  exact ⟨Nat.le_trans (cutV_length xs lo hi) hz, _, (r.drop (HT.sIx xs.length 0 lo)).take (HT.sIx xs.length xs.length hi - HT.sIx xs.length 0 lo), IsTup.new _ _⟩
end
end L2
namespace L2
open PySem PySem.Spec PyProof.Rows
def ixN (n : Nat) (i : Int) : Option Nat := if 0 ≤ i then (if i < n then some i.toNat else none) else if -(n : Int) ≤ i then some (i + n).toNat else none
def atI {α : Type} (xs : List α) (i : Int) : Option α := (ixN xs.length i).bind fun j => xs[j]?
theorem ixN_seq {n : Nat} {i : Int} {j : Nat} (h : ixN n i = some j) : seqIndex? i n = some j ∧ j < n ∧ -(n : Int) ≤ i ∧ i < n := by
  unfold ixN at h
  by_cases h0 : 0 ≤ i
  · rw [if_pos h0] at h
    by_cases h1 : i < n
    · rw [if_pos h1] at h
      have e : i.toNat = j := Option.some.inj h
      exact ⟨by rw [seqIndex_of h0 h1, e], by omega, by omega, h1⟩
    · rw [if_neg h1] at h; cases h
  · rw [if_neg h0] at h
    by_cases h1 : -(n : Int) ≤ i
    · rw [if_pos h1] at h
      have e : (i + n).toNat = j := Option.some.inj h
      exact ⟨by rw [seqIndex_neg (by omega) h1, e], by omega, h1, by omega⟩
    · rw [if_neg h1] at h; cases h
theorem atI_get {α : Type} {xs : List α} {i : Int} {v : α} (h : atI xs i = some v) : ∃ j, seqIndex? i xs.length = some j ∧ xs[j]? = some v ∧ j < xs.length ∧ -(xs.length : Int) ≤ i ∧ i < xs.length := by
  unfold atI at h
  cases e : ixN xs.length i with
  | none => rw [e] at h; cases h
  | some j =>
    rw [e] at h
    obtain ⟨h1, h2, h3, h4⟩ := ixN_seq e
    exact ⟨j, h1, h, h2, h3, h4⟩
theorem atI_nat {α : Type} {xs : List α} {j : Nat} {v : α} (h : xs[j]? = some v) : atI xs (j : Int) = some v := by
  have hj : j < xs.length := (List.getElem?_eq_some_iff.mp h).1
  have e : ixN xs.length (j : Int) = some j := by
    unfold ixN
    rw [if_pos (by omega), if_pos (by omega)]; simp
  unfold atI; rw [e]; exact h
theorem atI_last {α : Type} (xs : List α) (v : α) : atI (xs ++ [v]) (-1) = some v := by
  have hl : (xs ++ [v]).length = xs.length + 1 := by simp
  have e : ixN (xs ++ [v]).length (-1) = some xs.length := by
    unfold ixN
    rw [hl, if_neg (by decide), if_pos (by omega)]
    congr 1
    omega
  unfold atI
  rw [e]
  show (xs ++ [v])[xs.length]? = some v
  simp
def PlainIx (b : Expr) : Prop := ∀ o i, subscripted b false o i = operate [o, i] (getItem o i)
def IxR (X : Cx) (r : R2) : Prop :=
  ∀ (value slice : Expr) (pins : List (Addr × Obj)) (s : Shared) (σ : St) (H : Hp) (x y : V) (v u : Value) (Q : VK), Inv X pins σ H s → RelV x v → RelV y u → r x y H Q →
    subscripted slice false v u = operate [v, u] (getItem v u) → wpAny (model X.prog X.w) X.A (subscriptTail value slice v u) (EP X pins σ Q) X.xe s
def MtR (X : Cx) (id : String) (r : V → List V → Hp → VK → Prop) : Prop :=
  ∀ (pins : List (Addr × Obj)) (s : Shared) (σ : St) (H : Hp) (x : V) (xs : List V) (v : Value) (us : List Value) (Q : VK), Inv X pins σ H s → RelV x v → Vals xs us → r x xs H Q →
    wpAny (model X.prog X.w) X.A (call (.builtin id) (v :: us)) (EP X pins σ Q) X.xe s
section
variable {X : Cx} {a b : Expr} {ta tb : TE} {pos : Pos}
theorem IxR.or {r r' : R2} (h : IxR X r) (h' : IxR X r') : IxR X (fun x y H Q => r x y H Q ∨ r' x y H Q) := by
  intro value slice pins s σ H x y v u Q I rx ry q hs
  rcases q with q | q
  · exact h value slice pins s σ H x y v u Q I rx ry q hs
  · exact h' value slice pins s σ H x y v u Q I rx ry q hs
theorem pe_ix {r : R2} (hr : IxR X r) (ha : PE X a ta) (hb : PE X b tb) (hs : PlainIx b) : PE X (.Subscript a b pos) (tOp r ta tb) := by
  intro pins s σ H Q I h
  exact Subscript_ (binT ha hb I h fun v u s2 x y H2 I2 rx ry q => hr a b pins s2 σ H2 x y v u Q I2 rx ry q (hs _ _))
def rIxL (K : PySem.W.Frag) : R2 := fun x y H Q => ∃ p xs i v, x = .ref p ∧ y = .int i ∧ SqL K H p xs ∧ atI xs i = some v ∧ Q v H
def rIxT (K : PySem.W.Frag) : R2 := fun x y H Q => ∃ p xs i v, x = .ref p ∧ y = .int i ∧ SqT K H p xs ∧ atI xs i = some v ∧ Q v H
def rIxS : R2 := fun x y H Q => ∃ z i c, x = .str z ∧ y = .int i ∧ z.length ≤ sizeLine ∧ atI z.cps.toList i = some c ∧ Q (.str ⟨#[c]⟩) H
theorem ix_list : IxR X (rIxL X.K) := by
  intro value slice pins s σ H x y v u Q I rx ry h hs
  obtain ⟨p, xs, i, z, rfl, rfl, hq, he, q⟩ := h
  cases rx
  obtain ⟨t, rfl⟩ := ry
  obtain ⟨its, r, pl, hz⟩ := I.list hq
  obtain ⟨j, h1, h2, h3, h4, h5⟩ := atI_get he
  obtain ⟨w, ew, rw'⟩ := r.get h2
  have hl := r.length
  have hn := line63
  have fin : EP X pins σ Q w s := ⟨z, H, I, rw', q⟩
  by_cases h0 : 0 ≤ i
  · have hj : i.toNat = j := by
      rw [seqIndex_of h0 h5] at h1
      exact Option.some.inj h1
    exact item_listR pl.isList h0 (by omega) (by rw [hj]; simpa using ew) fin hs
  · have hj : (i + (its.toArray.size : Int)).toNat = j := by
      rw [seqIndex_neg (by omega) h4] at h1
      rw [List.size_toArray, ← hl]
      exact Option.some.inj h1
    exact subscriptTail_builtinR (x := w) pl.isList.typeIs slot_list_getitem.lookup
      (wpAny_getItem_list_neg (Q := fun r s' => r = w ∧ EP X pins σ Q r s') pl.isList (by omega) (by rw [List.size_toArray] <;> omega) (by omega) (by rw [hj]; simpa using ew) ⟨rfl, fin⟩) hs
theorem ix_tup : IxR X (rIxT X.K) := by
  intro value slice pins s σ H x y v u Q I rx ry h hs
  obtain ⟨p, xs, i, z, rfl, rfl, hq, he, q⟩ := h
  cases rx
  obtain ⟨t, rfl⟩ := ry
  obtain ⟨its, r, pl, hz⟩ := I.tuple hq
  obtain ⟨j, h1, h2, h3, h4, h5⟩ := atI_get he
  obtain ⟨w, ew, rw'⟩ := r.get h2
  have hl := r.length
  have hn := line63
  have fin : EP X pins σ Q w s := ⟨z, H, I, rw', q⟩
  exact subscriptTail_builtinR (x := w) pl.typeIs slot_tuple_getitem.lookup
    (getItem_tuple (j := j) (Q := fun r s' => r = w ∧ EP X pins σ Q r s') pl (by omega) (by omega) (by rw [List.size_toArray, ← hl]; exact h1) (by simpa using ew) ⟨rfl, fin⟩) hs
theorem ix_str : IxR X rIxS := by
  intro value slice pins s σ H x y v u Q I rx ry h hs
  obtain ⟨z, i, c, rfl, rfl, hz, he, q⟩ := h
  obtain ⟨t, rfl⟩ := rx
  obtain ⟨t', rfl⟩ := ry
  obtain ⟨j, h1, h2, h3, h4, h5⟩ := atI_get he
  have hl : z.cps.toList.length = z.length := by simp [Str.length]
  rw [hl] at h1 h4 h5
  have hn := line63
  exact tail_any (typeIs_str s z t) slot_str_getitem.lookup (getItem_str (c := c) (by
    have e1 : decide (i < -(2 ^ 63 : Int)) = false := decide_eq_false (by omega)
    have e2 : decide (i ≥ 2 ^ 63) = false := decide_eq_false (by omega)
    rw [e1, e2, Bool.or_false]) (by rw [h1]; simpa using h2) ⟨.str ⟨#[c]⟩, H, I.tok _, ⟨_, rfl⟩, q⟩) hs
theorem mapSeq_set (its : List Value) (n j : Nat) (u : Value) : Obj.mapSeq (·.setIfInBounds j u) { cls := .type "list", data := .seq its.toArray n } = { cls := .type "list", data := .seq (its.set j u).toArray n } := by
  simp [Obj.mapSeq]
theorem Inv.lst {pins : List (Addr × Obj)} {σ : St} {H : Hp} {s : Shared} {p : Addr} {xs : List V} (I : Inv X pins σ H s) (h : H p = some (.lst xs)) :
    ∃ (its : List Value) (n : Nat), Vals xs its ∧ s.heap.get? p = some { cls := .type "list", data := .seq its.toArray n } ∧ xs.length ≤ sizeLine := by
  obtain ⟨z, its, n, r, e⟩ := I.hok p _ h
  exact ⟨its, n, r, e, z⟩
theorem Inv.lstUpd {pins : List (Addr × Obj)} {σ : St} {H : Hp} {s : Shared} {p : Addr} {xs ys : List V} {its its' : List Value} {n n' : Nat} {f : Obj → Obj} (I : Inv X pins σ H s) (h : H p = some (.lst xs))
    (ho : s.heap.get? p = some { cls := .type "list", data := .seq its.toArray n }) (hf : f { cls := .type "list", data := .seq its.toArray n } = { cls := .type "list", data := .seq its'.toArray n' }) (r : Vals ys its') (hz : ys.length ≤ sizeLine) (t : Nat) :
    Inv X pins σ (upd H p (.lst ys)) { s with heap := s.heap.update p f, toks := t } := by
  have e : (s.heap.update p f).get? p = some { cls := .type "list", data := .seq its'.toArray n' } := by
    rw [Heap.get?_update_self f ho (by rw [hf] <;> rfl), hf]
  refine I.write (x := p) (e := p) (by rw [h]; trivial) (.inl rfl) (fun b u hb q => (Heap.get?_update_other _ _ (Ne.symm hb)).trans q) ⟨_, e⟩ ?_
  exact ⟨hz, its', n', r, e⟩
def rSetL : V → V → V → Hp → (Hp → Prop) → Prop := fun o i v H Q => ∃ p xs k j, o = .ref p ∧ i = .int k ∧ H p = some (.lst xs) ∧ ixN xs.length k = some j ∧ Q (upd H p (.lst (xs.set j v)))
theorem set_list : PSet X rSetL := by
  intro pins s σ H o i v ov iv u Q I ro ri rv h
  obtain ⟨p, xs, k, j, rfl, rfl, hp, hj, q⟩ := h
  cases ro
  obtain ⟨t, rfl⟩ := ri
  obtain ⟨its, n, r, ho, hz⟩ := I.lst hp
  obtain ⟨h1, h2, h3, h4⟩ := ixN_seq hj
  have hl := r.length
  have hn := line63
  have I' : Inv X pins σ (upd H p (.lst (xs.set j v))) { s with heap := s.heap.update p (Obj.mapSeq (·.setIfInBounds j u)) } :=
    I.lstUpd hp ho (mapSeq_set its n j u) (r.set rv j) (by rw [List.length_set]; exact hz) s.toks
  by_cases h0 : 0 ≤ k
  · have hk : k.toNat = j := by
      rw [seqIndex_of h0 h4] at h1
      exact Option.some.inj h1
    exact PySem.W.ki_setAt ho h0 (by omega) (by rw [List.size_toArray, ← hl]; exact h4) (by rw [hk]; exact ⟨_, I', q⟩)
  · have hk : (k + (its.toArray.size : Int)).toNat = j := by
      rw [seqIndex_neg (by omega) h3] at h1
      rw [List.size_toArray, ← hl]
      exact Option.some.inj h1
    exact PySem.W.ki_setBack ho (by omega) (by rw [List.size_toArray, ← hl]; exact h3) (by omega) (by rw [hk]; exact ⟨_, I', q⟩)
theorem slice_bounds (lo hi : Option Int) (n : Nat) : (sliceBounds lo hi none n).1 = ((HT.sIx n 0 lo : Nat) : Int) ∧ (sliceBounds lo hi none n).2.1 = ((HT.sIx n n hi : Nat) : Int) ∧ (sliceBounds lo hi none n).2.2 = 1 := by
  refine ⟨?_, ?_, rfl⟩
  · cases lo with
    | none => simp [sliceBounds, HT.sIx]
    | some i =>
      simp only [sliceBounds, HT.sIx, Option.getD_none, show (1 : Int) > 0 by decide, if_true]
      by_cases h : i < 0
      · simp only [h, if_true] <;> omega
      · simp only [h, if_false] <;> omega
  · cases hi with
    | none => simp [sliceBounds, HT.sIx]
    | some i =>
      simp only [sliceBounds, HT.sIx, Option.getD_none, show (1 : Int) > 0 by decide, if_true]
      by_cases h : i < 0
      · simp only [h, if_true] <;> omega
      · simp only [h, if_false] <;> omega
theorem slicePick_cut (its : List Value) (lo hi : Option Int) : slicePick its.toArray lo hi none = ((its.drop (HT.sIx its.length 0 lo)).take (HT.sIx its.length its.length hi - HT.sIx its.length 0 lo)).toArray := by
  obtain ⟨h1, h2, h3⟩ := slice_bounds lo hi its.toArray.size
  unfold slicePick
  rw [h1, h2, h3]
  simp only [sliceRange_one, pick_run, List.size_toArray] <;> rfl
def rSlL (K : PySem.W.Frag) : V → Option Int → Option Int → Hp → VK → Prop := fun x lo hi H Q => ∃ a xs, x = .ref a ∧ SqL K H a xs ∧ ∀ p, H p = none → Q (.ref p) (upd H p (.lst (cutV xs lo hi)))
theorem sl_list : SlR X (rSlL X.K) := by
  intro pins s σ H x v vl vu lo hi sl Q I rx hs pl pu h
  obtain ⟨a, xs, rfl, hx, q⟩ := h
  cases rx
  obtain ⟨its, r, ht, hz⟩ := I.list hx
  have hlen := r.length
  refine ⟨"list", _, slot_list_getitem.lookup, ht.isList.typeIs, ?_⟩
  refine wpAny_getItem_list_slice ht.isList hs pl pu .none (by simp) ?_ (by rw [List.size_toArray] <;> omega)
  rw [slicePick_cut, ← hlen]
  refine ⟨.ref s.heap.objs.size, _, I.laid (t' := s.toks) (o := .lst (cutV xs lo hi)) (fun b ob q => Heap.get?_push_of_some _ q) (Nat.le_refl _) ?_, rfl, q _ (I.hok.fresh (Nat.le_refl _))⟩
  exact ⟨Nat.le_trans (cutV_length xs lo hi) hz, _, 0, (r.drop (HT.sIx xs.length 0 lo)).take (HT.sIx xs.length xs.length hi - HT.sIx xs.length 0 lo), Heap.get?_push_size _ rfl⟩
def flatV : V → Bool
  | .non => true
  | .bl _ => true
  | .int _ => true
  | .str _ => true
  | _ => false
def eqV : V → V → Bool
  | .non, .non => true
  | .bl a, .bl b => a == b
  | .bl a, .int b => (if a then 1 else 0) == b
  | .int a, .bl b => a == (if b then 1 else 0)
  | .int a, .int b => a == b
  | .str a, .str b => a == b
  | _, _ => false
theorem eqAt_V {A : Around} {s : Shared} {y x : V} {u v : Value} (ry : RelV y u) (rx : RelV x v) (fy : flatV y = true) (fx : flatV x = true) : SeqAt.EqAt A s u v (eqV y x) := by
  cases y with
  | non =>
    cases ry
    cases x with
    | non => cases rx; exact SeqAt.EqAt.same _
    | bl b => cases rx; exact SeqAt.EqAt.none_bool b
    | int b => obtain ⟨t, rfl⟩ := rx; exact SeqAt.EqAt.none_int b t
    | str b => obtain ⟨t, rfl⟩ := rx; exact SeqAt.EqAt.none_str b t
    | _ => exact absurd (show false = true from fx) Bool.false_ne_true
  | bl a =>
    cases ry
    cases x with
    | non => cases rx; exact SeqAt.EqAt.bool_none a
    | bl b => cases rx; exact SeqAt.EqAt.bool_bool a b
    | int b => obtain ⟨t, rfl⟩ := rx; exact SeqAt.EqAt.bool_int a b t
    | str b => obtain ⟨t, rfl⟩ := rx; exact SeqAt.EqAt.bool_str a b t
    | _ => exact absurd (show false = true from fx) Bool.false_ne_true
  | int a =>
    obtain ⟨t', rfl⟩ := ry
    cases x with
    | non => cases rx; exact SeqAt.EqAt.int_none a t'
    | bl b => cases rx; exact SeqAt.EqAt.int_bool a t' b
    | int b => obtain ⟨t, rfl⟩ := rx; exact SeqAt.EqAt.int_int a t' b t
    | str b => obtain ⟨t, rfl⟩ := rx; exact SeqAt.EqAt.int_str a t' b t
    | _ => exact absurd (show false = true from fx) Bool.false_ne_true
  | str a =>
    obtain ⟨t', rfl⟩ := ry
    cases x with
    | non => cases rx; exact SeqAt.EqAt.str_none a t'
    | bl b => cases rx; exact SeqAt.EqAt.str_bool a t' b
    | int b => obtain ⟨t, rfl⟩ := rx; exact SeqAt.EqAt.str_int a t' b t
    | str b => obtain ⟨t, rfl⟩ := rx; exact SeqAt.EqAt.str_str a t' b t
    | _ => exact absurd (show false = true from fx) Bool.false_ne_true
  | _ => exact absurd (show false = true from fy) Bool.false_ne_true
def eqU (x : V) (u : Value) : Bool := match u with
  | .none => eqV .non x
  | .bool b => eqV (.bl b) x
  | .int i _ => eqV (.int i) x
  | .str z _ => eqV (.str z) x
  | _ => false
theorem eqU_of {x y : V} {u : Value} (r : RelV y u) (f : flatV y = true) : eqU x u = eqV y x := by
  cases y with
  | non => cases r; rfl
  | bl b => cases r; rfl
  | int i => obtain ⟨t, rfl⟩ := r; rfl
  | str z => obtain ⟨t, rfl⟩ := r; rfl
  | _ => exact absurd (show false = true from f) Bool.false_ne_true
theorem any_eqU {x : V} : ∀ {xs : List V} {us : List Value}, Vals xs us → xs.all flatV = true → us.any (eqU x) = xs.any fun y => eqV y x
  | _, _, .nil, _ => rfl
  | y :: xs, u :: us, .cons r t, f => by
    rw [List.all_cons, Bool.and_eq_true] at f
    rw [List.any_cons, List.any_cons, eqU_of r f.1, any_eqU t f.2]
theorem mem_eqAt {A : Around} {s : Shared} {x : V} {v : Value} (rx : RelV x v) (fx : flatV x = true) : ∀ {xs : List V} {us : List Value}, Vals xs us → xs.all flatV = true → ∀ u ∈ us, SeqAt.EqAt A s u v (eqU x u)
  | _, _, .nil, _ => fun u hu => by cases hu
  | y :: xs, u :: us, .cons r t, f => fun u' hu => by
    rw [List.all_cons, Bool.and_eq_true] at f
    rcases List.mem_cons.mp hu with rfl | hu
    · rw [eqU_of r f.1]; exact eqAt_V r rx f.1 fx
    · exact mem_eqAt rx fx t f.2 u' hu
def inV (x : V) (xs : List V) : Bool := xs.any fun y => eqV y x
def rIn (K : PySem.W.Frag) (neg : Bool) : R2 := fun x y H Q => ∃ p xs, y = .ref p ∧ (SqL K H p xs ∨ SqT K H p xs) ∧ flatV x = true ∧ xs.all flatV = true ∧ Q (.bl (if neg then !inV x xs else inV x xs)) H
theorem op_in_seq : OpR X (compareOp .In) (rIn X.K false) := by
  intro pins s σ H x y v u Q I rx ry h
  obtain ⟨p, xs, rfl, hq, fx, fs, q⟩ := h
  cases ry
  rcases hq with hq | hq
  · obtain ⟨its, r, pl, hz⟩ := I.list hq
    refine SeqAt.in_listAt (eqU x) pl.isList (fun w hw => mem_eqAt rx fx r fs w (by simpa using hw)) ⟨.bl _, H, I, rfl, ?_⟩
    rw [show its.toArray.any (eqU x) = its.any (eqU x) by simp, any_eqU r fs]
    exact q
  · obtain ⟨its, r, pl, hz⟩ := I.tuple hq
    refine SeqAt.in_tupleAt (eqU x) pl (fun w hw => mem_eqAt rx fx r fs w (by simpa using hw)) ⟨.bl _, H, I, rfl, ?_⟩
    rw [show its.toArray.any (eqU x) = its.any (eqU x) by simp, any_eqU r fs]
    exact q
theorem call_list_of : CallR X (.type "list") (fun xs H Q => ∃ p ys, xs = [.ref p] ∧ (SqL X.K H p ys ∨ SqT X.K H p ys) ∧ ∀ l, H l = none → Q (.ref l) (upd H l (.lst ys))) := by
  intro pins s σ H xs us Q I r h
  obtain ⟨p, ys, rfl, hq, q⟩ := h
  obtain ⟨u, rfl, rx⟩ := vals1 r
  cases rx
  have fin : ∀ (its : List Value), Vals ys its → ys.length ≤ sizeLine → ∀ (h' : Heap) (c' : Nat), (∀ b o', s.heap.get? b = some o' → h'.get? b = some o') →
      h'.get? s.heap.objs.size = some { cls := .type "list", dict := none, data := .seq its.toArray c', slots := #[] } → EP X pins σ Q (.ref s.heap.objs.size) { s with heap := h' } := fun its r' hz h' c' kp e =>
    ⟨.ref s.heap.objs.size, _, I.laid (t' := s.toks) kp (Nat.le_refl _) (show ObjOk X.prog X.w _ h' _ (.lst ys) from ⟨hz, its, c', r', e⟩), rfl, q _ (I.hok.fresh (Nat.le_refl _))⟩
  rcases hq with hq | hq
  · obtain ⟨its, r', pl, hz⟩ := I.list hq
    have hlen := r'.length
    obtain ⟨o, ho, hc, n, hd⟩ := pl.isList
    exact call_list_seq p (.inl rfl) ho hc hd (fun h' c' kp e => fin its r' hz h' c' kp e) (by simp only [List.size_toArray] <;> omega)
  · obtain ⟨its, r', pl, hz⟩ := I.tuple hq
    have hlen := r'.length
    obtain ⟨o, ho, hc, n, hd⟩ := pl
    exact call_list_seq p (.inr rfl) ho hc hd (fun h' c' kp e => fin its r' hz h' c' kp e) (by simp only [List.size_toArray] <;> omega)
theorem call_tuple_of : CallR X (.type "tuple") (fun xs H Q => ∃ p ys, xs = [.ref p] ∧ ((SqL X.K H p ys ∧ ∀ l, H l = none → Q (.ref l) (upd H l (.tup ys))) ∨ (SqT X.K H p ys ∧ Q (.ref p) H))) := by
  intro pins s σ H xs us Q I r h
  obtain ⟨p, ys, rfl, h⟩ := h
  obtain ⟨u, rfl, rx⟩ := vals1 r
  cases rx
  rcases h with ⟨hq, q⟩ | ⟨hq, q⟩
  · obtain ⟨its, r', pl, hz⟩ := I.list hq
    have hlen := r'.length
    refine call_tuple_list pl.isList (fun h' kp => ?_) (by simp only [List.size_toArray] <;> omega)
    have I1 : Inv X pins σ H { s with heap := h' } := I.kept (t' := s.toks) kp
    have I2 : Inv X pins σ (upd H h'.objs.size (.tup ys)) { s with heap := h'.push { cls := .type "tuple", data := .seq its.toArray } } :=
      I1.laid (t' := s.toks) (fun b o e => Heap.get?_push_of_some _ e) (Nat.le_refl _) (show ObjOk X.prog X.w _ _ _ (.tup ys) from ⟨hz, its, r', IsTup.new _ _⟩)
    exact ⟨.ref h'.objs.size, _, I2, rfl, q _ (I1.hok.fresh (Nat.le_refl _))⟩
  · obtain ⟨its, r', pl, hz⟩ := I.tuple hq
    exact call_tuple_same pl ⟨.ref p, H, I, rfl, q⟩
def tyV (K : PySem.W.Frag) (T : String) (x : V) (H : Hp) : Prop := match x with
  | .str _ => T = "str"
  | .int _ => T = "int"
  | .ref p => (T = "list" ∧ ∃ xs, SqL K H p xs) ∨ (T = "tuple" ∧ ∃ o, K.lookup p = some o ∧ o.cls = .type "tuple" ∧ o.dict = none) ∨
      (T = "dict" ∧ ((∃ kvs, H p = some (.dK kvs)) ∨ ∃ kvs, H p = some (.dT kvs))) ∨ (T = "set" ∧ ∃ S n, H p = some (.set S n))
  | _ => False
theorem tyV_is {pins : List (Addr × Obj)} {σ : St} {H : Hp} {s : Shared} {T : String} {x : V} {v : Value} (I : Inv X pins σ H s) (r : RelV x v) (ty : tyV X.K T x H) :
    s.TypeIs v T ∧ ∀ a, v = .ref a → ∃ ob, s.heap.get? a = some ob ∧ ob.dict = none := by
  cases x with
  | str z =>
    obtain ⟨t, rfl⟩ := r
    cases (show T = "str" from ty)
    exact ⟨typeIs_str s z t, fun _ e => nomatch e⟩
  | int i =>
    obtain ⟨t, rfl⟩ := r
    cases (show T = "int" from ty)
    exact ⟨typeIs_int s i t, fun _ e => nomatch e⟩
  | ref p =>
    cases r
    rcases ty with ⟨rfl, xs, hq⟩ | ⟨rfl, o, hk, hc, hd⟩ | ⟨rfl, hk⟩ | ⟨rfl, S, n, hk⟩
    · obtain ⟨its, _, pl, _⟩ := I.list hq
      refine ⟨pl.isList.typeIs, fun a e => ?_⟩
      cases e
      obtain ⟨o, n, e, c, hd, _⟩ := pl
      exact ⟨o, e, hd⟩
    · refine ⟨⟨o, I.kIn p o hk, hc⟩, fun a e => ?_⟩
      cases e
      exact ⟨o, I.kIn _ o hk, hd⟩
    · have z : ∃ o, s.heap.get? p = some o ∧ o.ExactDict := by
        rcases hk with ⟨kvs, hk⟩ | ⟨kvs, hk⟩
        · obtain ⟨_, _, _, _, o, _, _, e, ex, _⟩ := I.hok p _ hk
          exact ⟨o, e, ex⟩
        · obtain ⟨_, _, _, _, o, _, _, e, ex, _⟩ := I.hok p _ hk
          exact ⟨o, e, ex⟩
      obtain ⟨o, e, ex⟩ := z
      refine ⟨⟨o, e, ex.1⟩, fun a e2 => ?_⟩
      cases e2
      exact ⟨o, e, ex.2.1⟩
    · obtain ⟨o, _, _, _, e, ex, _⟩ := I.hok p _ hk
      refine ⟨⟨o, e, ex.1⟩, fun a e2 => ?_⟩
      cases e2
      exact ⟨o, e, ex.2.1⟩
  | _ => exact False.elim ty
def tBM (K : PySem.W.Frag) (T : String) (r : V → List V → Hp → VK → Prop) (to : TE) (t : TA) : TE := fun σ H Q => to σ H fun x H1 => tyV K T x H1 ∧ t σ H1 fun xs H2 => r x xs H2 Q
variable {o e : Expr} {es : List Expr} {to : TE} {t : TA} {name : Str} {apos cpos : Pos} {T id : String} {r : V → List V → Hp → VK → Prop}
theorem pe_bm (pa : PlainAttrs T) (slot : Slot T name id) (hty : typeOf (.builtin id) = pure (.type "method_descriptor")) (hm : MtR X id r) (ho : PE X o to) (ha : PA X (e :: es) t)
    (hbase : attributeBase o name X.env (eval o X.env) = eval o X.env := by rfl)
    (hfew : ((backTo cpos (starEach (e :: es) X.env)).all (fun x => !x.1) && (backToKw cpos (keywordEach [] X.env)).all (fun x => x.1.isSome)
      && decide ((e :: es).length + ([] : List Keyword).length + (if ([] : List Keyword).isEmpty then 0 else 1) < 30)) = true := by rfl)
    (hline : (apos.endLine == cpos.line) = true := by rfl) (hs : starEach (e :: es) X.env = (false, eval e X.env) :: starEach es X.env := by rfl) (hplain : (backTo cpos (starEach es X.env)).any (·.1) = false := by rfl) :
    PE X (.Call (.Attribute o name apos) (e :: es) [] cpos) (tBM X.K T r to t) := by
  intro pins s σ H Q I h
  refine wpAny_Call_method_late hbase hfew hline rfl (thn (ho pins s σ H _ I h) fun v s1 ⟨x, H1, I1, r1, ty, q1⟩ => ?_)
  obtain ⟨h1, h2⟩ := tyV_is I1 r1 ty
  refine ⟨T, id, pa, slot, hty, h1, h2, ?_⟩
  have hA := ha cpos pins s1 σ H1 _ I1 q1
  rw [hs] at hA ⊢
  refine Calls.callWith_builtin (by show (false || (backTo cpos (starEach es X.env)).any (·.1)) = false; rw [hplain] <;> rfl) (Calls.evalArgs_plain ?_)
  exact thn hA fun us s2 ⟨vs, H2, I2, r2, q2⟩ => hm pins s2 σ H2 x vs v us Q I2 r1 r2 q2
end
end L2
namespace L2
open PySem PySem.Spec PyProof.Rows
def MtM (X : Cx) (id : String) (r : V → List V → Hp → VK → Prop) : Prop :=
  ∀ (pins : List (Addr × Obj)) (s : Shared) (σ : St) (H : Hp) (x : V) (xs : List V) (v : Value) (us : List Value) (Q : VK), Inv X pins σ H s → RelV x v → Vals xs us → r x xs H Q →
    wpAny (model X.prog X.w) X.A (call (.builtin id) (v :: us)) (EP X pins σ Q) X.xe s
theorem Vals.one : ∀ {x : V} {us : List Value}, Vals [x] us → ∃ u, us = [u] ∧ RelV x u
  | _, _, .cons r .nil => ⟨_, rfl, r⟩
theorem Vals.rep {xs : List V} {us : List Value} (h : Vals xs us) : ∀ k : Nat, Vals (List.replicate k xs).flatten (List.replicate k us).flatten
  | 0 => .nil
  | k + 1 => by
    rw [List.replicate_succ, List.replicate_succ, List.flatten_cons, List.flatten_cons]
    exact Vals.append h (Vals.rep h k)
theorem foldl_rep (its : List Value) : ∀ (k : Nat) (acc : List Value),
    List.foldl (fun x1 x2 => x1 ++ x2) acc.toArray (List.replicate k its.toArray) = (acc ++ (List.replicate k its).flatten).toArray
  | 0, acc => by simp
  | k + 1, acc => by
    have e : acc.toArray ++ its.toArray = (acc ++ its).toArray := by simp
    have e2 : (acc ++ its) ++ (List.replicate k its).flatten = acc ++ (List.replicate (k + 1) its).flatten := by
      rw [List.replicate_succ, List.flatten_cons, List.append_assoc]
    rw [← e2, ← foldl_rep its k (acc ++ its), ← e, List.replicate_succ, List.foldl_cons]
section
variable {X : Cx} {pins : List (Addr × Obj)} {σ : St} {H : Hp} {s : Shared} {l b : Addr} {xs ys zs : List V}
theorem Inv.lset {its its' : List Value} {n : Nat} {f : Array Value → Array Value} {t' : Nat} (I : Inv X pins σ H s) (hH : H l = some (.lst xs))
    (e : s.heap.get? l = some { cls := .type "list", data := .seq its.toArray n }) (hf : f its.toArray = its'.toArray) (hv : Vals ys its') (hz : ys.length ≤ sizeLine) :
    Inv X pins σ (upd H l (.lst ys)) { s with heap := s.heap.update l (Obj.mapSeq f), toks := t' } := by
  have q := PySem.IsL.update e f
  rw [hf] at q
  refine I.write (x := l) (e := l) (by rw [hH]; exact trivial) (.inl rfl) (fun b' u hb hu => (Heap.get?_update_other s.heap (Obj.mapSeq f) (Ne.symm hb)).trans hu) ⟨_, q⟩ ?_
  exact ⟨hz, its', _, hv, q⟩
theorem Inv.lnew {its : List Value} {t' : Nat} (I : Inv X pins σ H s) (hv : Vals ys its) (hz : ys.length ≤ sizeLine) :
    Inv X pins σ (upd H s.heap.objs.size (.lst ys)) { s with heap := s.heap.push { cls := .type "list", data := .seq its.toArray }, toks := t' } :=
  I.laid (fun _ _ q => Heap.get?_push_of_some _ q) (Nat.le_refl _) ⟨hz, its, 0, hv, Heap.get?_push_size _ rfl⟩
theorem Inv.fresh (I : Inv X pins σ H s) : H s.heap.objs.size = none := I.hok.fresh (Nat.le_refl _)
theorem Inv.lstM (I : Inv X pins σ H s) (hH : H l = some (.lst xs)) : xs.length ≤ sizeLine ∧ ∃ (its : List Value) (n : Nat), Vals xs its ∧ xs.length = its.length ∧ s.heap.get? l = some { cls := .type "list", data := .seq its.toArray n } := by
  obtain ⟨z, its, n, r, e⟩ := I.hok l _ hH
  exact ⟨z, its, n, r, r.length, e⟩
theorem notLongL {n : Nat} (h : n ≤ sizeLine) : Builtin.List.listTooLong n = false := by
  unfold Builtin.List.listTooLong
  exact decide_eq_false (by omega)
end
section
variable {X : Cx}
def rAppend : V → List V → Hp → VK → Prop := fun x vs H Q => ∃ l xs y, x = .ref l ∧ vs = [y] ∧ H l = some (.lst xs) ∧ xs.length < sizeLine ∧ Q .non (upd H l (.lst (xs ++ [y])))
theorem mt_append : MtM X "list.append" rAppend := by
  intro pins s σ H x vs v us Q I rx rv h
  obtain ⟨l, xs, y, rfl, rfl, hH, hz, q⟩ := h
  cases rx
  obtain ⟨u, rfl, ru⟩ := rv.one
  obtain ⟨z, its, n, r, hl, e⟩ := I.lstM hH
  refine call_meets F.slot_list_append ⟨_, e, rfl⟩ F.entry_list_append (F.args_list_append_2 _ _) (PySem.list_append l its.toArray n u (by rw [List.size_toArray]; omega)) ⟨e, ?_⟩
  refine ⟨.non, _, I.lset (its' := its ++ [u]) hH e (by simp) (r.append (.cons ru .nil)) ?_, rfl, q⟩
  rw [List.length_append, List.length_singleton]
  omega
def rExtend : V → List V → Hp → VK → Prop := fun x vs H Q => ∃ l b xs zs, x = .ref l ∧ vs = [.ref b] ∧ H l = some (.lst xs) ∧ H b = some (.lst zs) ∧ xs.length + zs.length ≤ sizeLine ∧ Q .non (upd H l (.lst (xs ++ zs)))
theorem mt_extend : MtM X "list.extend" rExtend := by
  intro pins s σ H x vs v us Q I rx rv h
  obtain ⟨l, b, xs, zs, rfl, rfl, hH, hB, hz, q⟩ := h
  cases rx
  obtain ⟨u, rfl, ru⟩ := rv.one
  cases ru
  obtain ⟨z, its, n, r, hl, e⟩ := I.lstM hH
  obtain ⟨z2, its2, n2, r2, hl2, e2⟩ := I.lstM hB
  have hsz : its.toArray.size + its2.toArray.size ≤ sizeLine := by rw [List.size_toArray, List.size_toArray]; omega
  have hlong : ¬ (!its.toArray.isEmpty && Builtin.List.listTooLong (its.toArray.size + its2.toArray.size)) = true := by
    rw [notLongL hsz, Bool.and_false]
    exact Bool.false_ne_true
  refine call_meets F.slot_list_extend ⟨_, e, rfl⟩ F.entry_list_extend (F.args_list_extend_2 _ _)
    (AutoSeq1.list_extend_list_list_0 l its.toArray n b its2.toArray n2 hlong (by rw [List.size_toArray]; omega) (by omega)) ⟨e, e2, ?_⟩
  refine ⟨.non, _, I.lset (its' := its ++ its2) hH e (by simp) (r.append r2) ?_, rfl, q⟩
  rw [List.length_append]
  omega
def rCat : R2 := fun x y H Q => ∃ l b xs zs, x = .ref l ∧ y = .ref b ∧ H l = some (.lst xs) ∧ H b = some (.lst zs) ∧ xs.length + zs.length ≤ sizeLine ∧ ∀ p, H p = none → Q (.ref p) (upd H p (.lst (xs ++ zs)))
theorem op_cat : OpR X (binaryOp .Add) rCat := by
  intro pins s σ H x y v u Q I rx ry h
  obtain ⟨l, b, xs, zs, rfl, rfl, hH, hB, hz, q⟩ := h
  cases rx
  cases ry
  obtain ⟨z, its, n, r, hl, e⟩ := I.lstM hH
  obtain ⟨z2, its2, n2, r2, hl2, e2⟩ := I.lstM hB
  refine PySem.P.add_list e e2 ?_ (by rw [List.size_toArray, List.size_toArray]; omega)
  have ea : its.toArray ++ its2.toArray = (its ++ its2).toArray := by simp
  rw [ea]
  exact ⟨.ref _, _, I.lnew (t' := s.toks) (r.append r2) (by rw [List.length_append]; omega), rfl, q _ I.fresh⟩
def rRep : R2 := fun x y H Q => ∃ l k xs, x = .ref l ∧ y = .int k ∧ H l = some (.lst xs) ∧ -(2 ^ 63) ≤ k ∧ k < 2 ^ 63 ∧ xs.length * k.toNat ≤ sizeLine ∧
  ∀ p, H p = none → Q (.ref p) (upd H p (.lst (List.replicate k.toNat xs).flatten))
theorem len_rep {α : Type} (xs : List α) (k : Nat) : (List.replicate k xs).flatten.length = k * xs.length := by
  induction k with
  | zero => simp
  | succ k ih => rw [List.replicate_succ, List.flatten_cons, List.length_append, ih, Nat.succ_mul, Nat.add_comm]
theorem op_rep : OpR X (binaryOp .Mult) rRep := by
  intro pins s σ H x y v u Q I rx ry h
  obtain ⟨l, k, xs, rfl, rfl, hH, h1, h2, hz, q⟩ := h
  cases rx
  obtain ⟨t, rfl⟩ := ry
  obtain ⟨z, its, n, r, hl, e⟩ := I.lstM hH
  have hlen : its.toArray.size * k.toNat ≤ sizeLine := by rw [List.size_toArray, ← hl]; exact hz
  have hcap : ¬ its.toArray.size * k.toNat > (2 ^ 63 - 1) / 8 := by
    have : (sizeLine : Nat) ≤ (2 ^ 63 - 1) / 8 := by decide
    omega
  have hfit : ¬ (!Builtin.List.listFitsIndex k) = true := by
    rw [fitsIndex_both h1 h2]
    exact Bool.false_ne_true
  have hlong : ¬ Builtin.List.listTooLong (its.toArray.size * k.toNat) = true := by
    rw [notLongL hlen]
    exact Bool.false_ne_true
  have hnew : List.foldl (fun x1 x2 => x1 ++ x2) #[] (List.replicate (if its.toArray.isEmpty = true then 0 else k.toNat) its.toArray) = (List.replicate k.toNat its).flatten.toArray := by
    have f0 : ∀ m : Nat, List.foldl (fun x1 x2 => x1 ++ x2) #[] (List.replicate m its.toArray) = (List.replicate m its).flatten.toArray := fun m => by
      have := foldl_rep its m []
      rw [List.nil_append] at this
      exact this
    rw [f0]
    cases its with
    | nil => simp
    | cons a r' => rw [if_neg (by simp)]
  refine wpAny_binaryOp_repeat_ref (T := "list") (U := "int") (by decide) ⟨_, e, rfl⟩ (fun s' => typeIs_int s' k t) noFill_list_mul F.fills_int_mul F.slot_int_rmul repeat_list F.slot_int_index.lookup
    (call_meets F.slot_int_rmul (typeIs_int s k t) F.entry_int_rmul (F.args_int_rmul_2 _ _) (int___rmul___int_list k t l its.toArray n)
      ⟨e, rfl, ⟨_, e, rfl⟩, call_meets F.slot_list_mul ⟨_, e, rfl⟩ F.entry_list_mul (F.args_list_mul_2 _ _) (AutoListH.list___mul___list_int_3 l its.toArray n k t hfit hcap hlong) ⟨e, ?_⟩⟩)
  rw [hnew]
  exact ⟨.ref _, _, I.lnew (t' := s.toks) (r.rep k.toNat) (by rw [len_rep, Nat.mul_comm]; exact hz), rfl, q _ I.fresh⟩
end
section
variable {prog : Program} {w : World} {A : Around} {E : Value → Shared → Prop} {s : Shared}
end
section
variable {X : Cx}
end
end L2
namespace Att
open PySem PySem.W PySem.Calls PyProof.Rows
theorem ints_of_wellAll {P : Params} {h : Heap} : ∀ (ns : List Int) (vs : List Value), WellAll P h vs (ns.map WData.int) → IntsAre vs ns := by
  intro ns
  induction ns with
  | nil =>
    intro vs w
    rw [List.map_nil] at w
    cases w
    exact .nil
  | cons n ns ih =>
    intro vs w
    rw [List.map_cons] at w
    cases w with
    | cons a b =>
      cases a
      exact .cons _ _ (ih _ b)
theorem script_of {l : OpenLaw} {n : Nat} (hn : l.most = some n) {P : Params} {h : Heap} {args : List WData} {vals : List Value}
    (hpre : l.row.toRowW.claim.pre args = true) (hwl : WellAll P h vals args) :
    ∃ a vs ns, vals = [Value.ref a] ∧ args = [WData.list (ns.map WData.int)] ∧ h.get? a = some { cls := .type "list", data := .seq vs.toArray } ∧ IntsAre vs ns ∧ ns.length ≤ n := by
  have hsh : WShape.hasAll [] args [.list .int] = true := (pre_splitW hpre).1
  have hc : l.pre.holds [] { args := args } = true := (pre_splitW hpre).2
  obtain ⟨d, r, rfl, h1, h2⟩ := hasAllW_cons hsh
  obtain rfl := hasAllW_nil h2
  obtain ⟨xs, rfl, h3⟩ := hasW_list h1
  obtain ⟨ns, rfl⟩ := items_int h3
  have hlen : ns.length ≤ n := by
    unfold OpenLaw.pre at hc
    have h4 : (WTm.not (.lt (.lit (.int (n : Int))) (.len (.arg 0)))).holds [] { args := [.list (ns.map .int)] } = true := by
      have h4 := (holds_andW hc).1
      rw [hn] at h4
      exact h4
    have h5 := condW_of h4 (w_not (w_lt w_lit (w_len_list (w_arg rfl))))
    rw [List.length_map] at h5
    refine Nat.le_of_not_lt fun q => ?_
    have q' : (n : Int) < ((ns.length : Nat) : Int) := by omega
    first
      | (rw [decide_eq_true q'] at h5; exact absurd h5 (by decide))
      | (simp at h5; omega)
  cases hwl with
  | cons w1 w2 =>
    cases w2
    cases w1 with
    | list ho hall => exact ⟨_, _, ns, rfl, rfl, ho, ints_of_wellAll ns _ hall, hlen⟩
theorem post_true (l : OpenLaw) (args : List WData) : l.row.toRowW.claim.post args (.bool true) args = true :=
  postW_of (r := l.row.toRowW) (X := (true == true))
    (show WShape.has [] (.bool true) .bool = true by first | rfl | decide | simp [WShape.has, WShape.arms, WShape.armsAll])
    (show (WTm.eq .res (.lit (.bool true))).value [] { args := args, res := some (.bool true), after := args } = some (.bool (true == true)) from w_eq_bool (w_res rfl) w_lit) rfl
theorem attach_call {l : OpenLaw} {n : Nat} {q : Program} {loose : List Str} {XP : (Str → Option Value) → Heap → Prop} {YP : World → Heap → Prop} {d : DefRec}
    (hn : l.most = some n) (hdf : d.params.defaults = [])
    (call : ∀ (w : World) (s₀ s₁ : Shared) (mg mb : Str → Option Value) (fa : Addr) (o : Obj) (pm cd doc : Value) (a : Addr) (vs : List Value) (ns : List Int),
      Ground q loose [] XP w s₀ mg mb s₁.heap → YP w s₁.heap →
      s₁.heap.get? fa = some o → o.data = .func (docDef d.name d.params d.body d.scope pm cd doc) → s₁.heap.CodeRec cd d.name → mg d.name = some (.ref fa) →
      s₁.heap.get? a = some { cls := .type "list", data := .seq vs.toArray } → IntsAre vs ns → ns.length ≤ n → s₁.gens = #[] →
      codeAny (model l.prog w) callerA (.call (.ref fa) ⟨[.ref a], []⟩) (fun r s' => r = .ok (.ret (.bool true)) ∧ OldK s₁.heap s'.heap ∧ s'.os = s₁.os ∧ AllBare s'.gens) s₁) :
    WalkO q loose XP YP l.row.toRowW d [] (fun f vs => PySem.call f vs) := by
  intro w s₀ s₁ mg mb G Y fa o pm cd doc dV kV ho hd hcd hD hmg hg args vals as hpre hlay hrd hwl hlo
  obtain rfl : dV = .none := Dflts.none hD hdf
  obtain rfl : kV = .none := Dflts.noKw hD
  obtain ⟨a, vs, ns, rfl, rfl, hobj, hints, hlen⟩ := script_of hn hpre hwl
  refine enter_call (codeAny_mono (call w s₀ s₁ mg mb fa o pm cd doc a vs ns G Y ho (fd_plain hd) hcd hmg hobj hints hlen hg) fun r s' hq => ?_)
  obtain ⟨rfl, h2, h3, h4⟩ := hq
  exact ⟨.inl ⟨.bool true, .bool true, [], rfl, fun _ => rfl, .bool true, post_true l _, fun _ => ⟨List.Pairwise.nil, fun _ hm => (nomatch hm)⟩⟩, h2, h3, h4⟩
section
variable {prog : Program} {w : World} {A : Around} {E : Value → Shared → Prop} {s : Shared} {K : Frag}
end
end Att
namespace L2
open PySem PySem.Spec PyProof.Rows
theorem vals_ints : ∀ {vs : List Value} {ns : List Int}, IntsAre vs ns → Vals (ns.map V.int) vs
  | _, _, .nil => .nil
  | _, _, .cons n t h => .cons ⟨t, rfl⟩ (vals_ints h)
def Only (H : Hp) : Prop := ∀ b, H b = none ∨ ∃ o xs, H b = some (.frz o (.lst xs))
theorem law_call {P : Program} {w : World} {K : PySem.W.Frag} {mg mb : Str → Option Value} {CX : CXT} {k : Nat} {fa a : Addr} {fd : FuncData} {x : Str} {sp : Sp} {s₁ : Shared} {vs : List Value} {ns : List Int}
    (KX : K.In s₁.heap) (hns : s₁.heap.Ns mainGlobals mg) (hb : s₁.heap.Ns builtinsNs mb) (hbb : ∀ x : Str, x ≠ "__name__" → mb x = bootBuiltins x) (hlim : s₁.heap.NoLimit) (hg : s₁.gens = #[])
    (ha : s₁.heap.get? a = some { cls := .type "list", data := .seq vs.toArray }) (hi : IntsAre vs ns) (hl : ns.length ≤ sizeLine) (hr : Room k callerA)
    (F : ∀ base : Heap, K.In base → base.Ns mainGlobals mg → FnOk P w K mg base CX k fa fd [x] sp) (hbind : ∀ (s : Shared) (u : Value), BindsTo s fd ⟨[u], []⟩ [(x, u)])
    (hsp : ∀ H : Hp, Only H → SqL K H a (ns.map V.int) → sp [.ref a] H (fun v _ => v = .bl true) fun _ _ _ => False)
    (hCX : ∀ H e s', CX [] H s₁ (fun _ _ _ => False) e s' → False) :
    codeAny (model P w) callerA (.call (.ref fa) ⟨[.ref a], []⟩) (fun r s' => r = .ok (.ret (.bool true)) ∧ OldK s₁.heap s'.heap ∧ s'.os = s₁.os ∧ AllBare s'.gens) s₁ := by
  have rv := vals_ints hi
  have lenV := hi.length
  have core : ∀ H : Hp, Only H → SqL K H a (ns.map V.int) → HOk P w H s₁.heap → (∀ b, H b ≠ none → b = a) → (H a ≠ none → K.lookup a = none) →
      codeAny (model P w) callerA (.call (.ref fa) ⟨[.ref a], []⟩) (fun r s' => r = .ok (.ret (.bool true)) ∧ OldK s₁.heap s'.heap ∧ s'.os = s₁.os ∧ AllBare s'.gens) s₁ := by
    intro H hO hS hok hA hK
    have base_of : ∀ {b : Addr} {o : Obj}, s₁.heap.get? b = some o → H b = none → (hidT s₁.heap H).get? b = some o := fun e n => hidT_get e n
    have noA : ∀ {b : Addr} {o : Obj} {es : Array DictEntry} {ep : Nat}, s₁.heap.get? b = some o → o.data = .dict es ep → H b = none := fun {b o es ep} e d => by
      cases q : H b with
      | none => rfl
      | some u =>
        have e' : b = a := hA b (by rw [q]; simp)
        subst e'
        rw [ha] at e; cases e
        have d' : Data.seq vs.toArray _ = Data.dict es ep := d
        cases d'
    have nsK : ∀ {b : Addr} {m : Str → Option Value}, s₁.heap.Ns b m → (hidT s₁.heap H).Ns b m := fun {b m} ⟨o, es, ep, e, d, r⟩ => ⟨o, es, ep, base_of e (noA e d), d, r⟩
    have hKb : K.In (hidT s₁.heap H) := fun b o e => base_of (KX b o e) (by
      cases q : H b with
      | none => rfl
      | some u =>
        have e' : b = a := hA b (by rw [q]; simp)
        subst e'
        rw [hK (by rw [q]; simp)] at e; cases e)
    have hM : Mod K mg (hidT s₁.heap H) := ⟨hKb, nsK hns, ⟨mb, nsK hb, hbb⟩, let ⟨mc, h1, h2⟩ := hlim; ⟨mc, nsK h1, h2⟩⟩
    have e0 : Env0 P w K mg (hidT s₁.heap H) callerA [] s₁ H := ⟨rfl, hM, fun b o e => of_hidT e, Nat.le_of_eq (hidT_size _ _), trivial, fun b hb => absurd (show b ∈ ([] : List Addr) from hb) (by simp), hok, .of_eq hg⟩
    refine codeAny_mono ((F _ hKb (nsK hns)).run callerA [] s₁ H ⟨[.ref a], []⟩ [.ref a] [.ref a] _ _ hr e0 (hbind s₁ (.ref a)) (.cons rfl .nil) (hsp H hO hS)) fun r s' h => ?_
    cases r with
    | error e => exact (hCX H e s' h).elim
    | ok fl =>
      cases fl with
      | next => exact False.elim h
      | brk => exact False.elim h
      | cont => exact False.elim h
      | ret u =>
        obtain ⟨v, H', os, bare, un, hok', r', q⟩ := h
        have q' : v = .bl true := q
        subst q'
        obtain rfl : u = Value.bool true := r'
        refine ⟨rfl, OldK.of_keep fun b o e => ?_, os, bare⟩
        cases q : H b with
        | none => exact un.keep b o e q (by intro z; exact absurd (show b ∈ ([] : List Addr) from z) (by simp)) (by simp)
        | some u =>
          rcases hO b with z | ⟨ob, xs, z⟩
          · rw [q] at z; cases z
          · have z2 := un.frzs b ob _ z
            obtain ⟨e1, _⟩ := hok b _ z
            obtain ⟨e2, _⟩ := hok' b _ z2
            rw [e] at e1; cases e1
            exact e2
  cases hk : K.lookup a with
  | some o =>
    have e := KX a o hk
    rw [ha] at e
    cases e
    refine core (fun _ => none) (fun _ => .inl rfl) (.inr ⟨_, vs.toArray, _, hk, rfl, rfl, rfl, by rw [List.size_toArray, lenV]; exact hl, by simpa using rv⟩) (fun b u z => by have z' : (none : Option HO) = some u := z; cases z') (fun b z => absurd rfl z) fun z => absurd rfl z
  | none =>
    refine core (fun b => if b = a then some (.frz { cls := .type "list", data := .seq vs.toArray } (.lst (ns.map V.int))) else none) (fun b => ?_) (.inl (.inr ⟨{ cls := .type "list", data := .seq vs.toArray }, if_pos rfl⟩)) (fun b u z => ?_) (fun b z => ?_) fun _ => hk
    · by_cases hb : b = a
      · exact .inr ⟨_, _, if_pos hb⟩
      · exact .inl (if_neg hb)
    · by_cases hb : b = a
      · have z' := (if_pos hb).symm.trans z
        cases z'
        subst hb
        exact ⟨ha, by rw [List.length_map]; exact hl, vs, _, rv, ha⟩
      · have z' := (if_neg hb).symm.trans z
        cases z'
    · by_cases hb : b = a
      · exact hb
      · exact absurd (if_neg hb) z
end L2
namespace L2
open PySem PySem.Spec PyProof.Rows
theorem walk_of {l : PySem.W.OpenLaw} {n k : Nat} {q : Program} {loose : List Str} {XP : (Str → Option Value) → Heap → Prop} {YP : World → Heap → Prop} {d : DefRec} {K : Params → PySem.W.Frag} {CX : World → CXT} {sp : World → Sp} {x : Str}
    (hn : l.most = some n) (hn2 : n ≤ sizeLine) (hdf : d.params.defaults = []) (hr : Room k callerA)
    (hY : ∀ (w : World) (h : Heap), YP w h → (K w.params).In h)
    (F : ∀ (w : World) (mg : Str → Option Value) (fa : Addr) (h : Heap), (K w.params).In h → h.Ns mainGlobals mg → mg d.name = some (.ref fa) →
      ∃ fd : FuncData, (∀ (s : Shared) (u : Value), BindsTo s fd ⟨[u], []⟩ [(x, u)]) ∧
        ∀ base : Heap, (K w.params).In base → base.Ns mainGlobals mg → FnOk l.prog w (K w.params) mg base (CX w) k fa fd [x] (sp w))
    (hsp : ∀ (w : World) (H : Hp) (a : Addr) (ns : List Int), ns.length ≤ n → Only H → SqL (K w.params) H a (ns.map V.int) → sp w [.ref a] H (fun v _ => v = .bl true) fun _ _ _ => False)
    (hCX : ∀ (w : World) (H : Hp) (s : Shared) (e : Value) (s' : Shared), CX w [] H s (fun _ _ _ => False) e s' → False) :
    PySem.W.WalkO q loose XP YP l.row.toRowW d [] (fun f vs => PySem.call f vs) := by
  refine Att.attach_call hn hdf fun w s₀ s₁ mg mb fa o pm cd doc a vs ns G Y ho hd hcd hmg hobj hints hlen hg => ?_
  have KX := hY w _ Y
  obtain ⟨fd, hb, hF⟩ := F w mg fa _ KX G.T.g hmg
  exact law_call KX G.T.g G.T.b G.T.builtins G.T.nolimit hg hobj hints (Nat.le_trans hlen hn2) hr hF hb (fun H hO hS => hsp w H a ns hlen hO hS) fun H e s' => hCX w H s₁ e s'
end L2
namespace L2
open PySem PySem.Spec PyProof.Rows
def inClass (s : Stmt) (j : Nat) : Stmt := match s with
  | .ClassDef _ _ _ body _ _ _ _ _ _ _ => body.getD j (.Pass ⟨0, 0, 0, 0⟩)
  | _ => .Pass ⟨0, 0, 0, 0⟩
def defArgs (s : Stmt) : Arguments := match s with
  | .FunctionDef _ a _ _ _ _ _ _ _ _ => a
  | _ => { posonlyargs := [], args := [], vararg := none, kwonlyargs := [], kw_defaults := [], kwarg := none, defaults := [] }
def defBody (s : Stmt) : List Stmt := match s with
  | .FunctionDef _ _ b _ _ _ _ _ _ _ => b
  | _ => []
def defScope (s : Stmt) : Scope := match s with
  | .FunctionDef _ _ _ _ _ _ sc _ _ _ => sc
  | _ => { kind := .function, names := [], isGenerator := false, isCoroutine := false }
abbrev CX0 : CXT := fun _ _ _ _ _ _ => False
abbrev E0 : XK := fun _ _ _ => False
theorem pass0 {X : Cx} : Passes CX0 X E0 := fun _ _ _ _ _ _ _ h => h.elim
structure Fun (K : PySem.W.Frag) (x qual : Str) (st : Stmt) (f : Addr) (fd : FuncData) : Prop where
  ex : ∃ (oc : Value) (od : Option Addr) (kV doc pm : Value) (an : Option Addr) (cdv ct : Value) (osl : Array (Option Value)),
    fd = PySem.W.fnOf x qual (defArgs st) (defBody st) (defScope st) .none kV doc pm an cdv ct ∧ K.lookup f = some ⟨oc, od, .func fd, osl⟩ ∧ PySem.W.codeIn K cdv qual = true
  kp : PySem.W.keepIn K (.ref f) = true
section
variable {P : Program} {w : World} {K : PySem.W.Frag} {mg : Str → Option Value} {base : Heap}
theorem Fun.ok {x qual : Str} {st : Stmt} {f : Addr} {fd : FuncData} {N ps : List Str} {k : Nat} {sp : Sp} (F : Fun K x qual st f fd) (S : FnScope N ps (defScope st)) (len : ∀ vs H Q E, sp vs H Q E → vs.length = ps.length)
    (hbody : ∀ (cdv : Value) (A : Around) (outer : List Env) (s : Shared) (H : Hp) (vs : List V) (Q : VK) (E : XK), Room k (A.deeper (envOfC qual (defScope st) s.heap.objs.size f cdv)) → sp vs H Q E →
      ∃ t, PSs (cxOf CX0 P w K mg base N qual (defScope st) f cdv A outer s H E).nox (defBody st) t ∧ t { nx := fun _ H' => Q .non H', rt := Q } (start N vs) H) : FnOk P w K mg base CX0 (k + 1) f fd ps sp := by
  obtain ⟨oc, od, kV, doc, pm, an, cdv, ct, osl, rfl, lk, hcd⟩ := F.ex
  refine fn_of lk hcd S len fun A outer s H vs Q E hr hsp => ?_
  obtain ⟨t, h, q⟩ := hbody cdv A outer s H vs Q E hr hsp
  exact ⟨t, h.nox, q⟩
theorem Fun.binds {x qual : Str} {st : Stmt} {f : Addr} {fd : FuncData} {ps : List Str} (F : Fun K x qual st f fd)
    (h : ∀ (kV doc pm : Value) (an : Option Addr) (cdv ct : Value) (us : List Value), us.length = ps.length → bindArgs (PySem.W.fnOf x qual (defArgs st) (defBody st) (defScope st) .none kV doc pm an cdv ct) ⟨us, []⟩ = pure (ps.zip us)) : Binds K fd ps [] := by
  obtain ⟨oc, od, kV, doc, pm, an, cdv, ct, osl, rfl, lk, hcd⟩ := F.ex
  exact .all (h kV doc pm an cdv ct)
theorem fun_mk {x qual : Str} {st : Stmt} {f : Addr} {oc : Value} {od an : Option Addr} {osl : Array (Option Value)} {kV doc pm cdv ct : Value} (l : K.lookup f = some ⟨oc, od, .func (PySem.W.fnOf x qual (defArgs st) (defBody st) (defScope st) .none kV doc pm an cdv ct), osl⟩)
    (c : PySem.W.codeIn K cdv qual = true) (k : PySem.W.keepIn K (.ref f) = true) : Fun K x qual st f (PySem.W.fnOf x qual (defArgs st) (defBody st) (defScope st) .none kV doc pm an cdv ct) := ⟨⟨oc, od, kV, doc, pm, an, cdv, ct, osl, rfl, l, c⟩, k⟩
end
section
variable {X : Cx}
theorem pv (i : Nat) {x : Str} {pos : Pos} (hN : X.N[i]? = some x := by rfl) (hv : Vis X.env.scope x := by first | exact Or.inl rfl | exact Or.inr (Or.inl rfl) | exact Or.inr (Or.inr rfl)) (hd : (x == ("__debug__" : Str)) = false := by decide)
    (hcd : (x == ("__classdict__" : Str)) = false := by decide) : PE X (.Name x pos) (tVar i) := pe_var hN hv hd hcd
end
theorem ite2 {c A B : Prop} [Decidable c] (h1 : c → A) (h2 : ¬ c → B) : if c then A else B := by
  by_cases h : c
  · rw [if_pos h]
    exact h1 h
  · rw [if_neg h]
    exact h2 h
def Same (H H' : Hp) : Prop := ∀ b o, H b = some o → H' b = some o
theorem Same.refl (H : Hp) : Same H H := fun _ _ h => h
theorem Same.trans {H H1 H2 : Hp} (a : Same H H1) (b : Same H1 H2) : Same H H2 := fun c o h => b c o (a c o h)
theorem Same.free {H H' : Hp} (e : Same H H') {l : Addr} (h : H' l = Option.none) : H l = Option.none := by
  cases q : H l with
  | none => rfl
  | some o =>
    rw [e l o q] at h
    cases h
theorem Same.seq {K : PySem.W.Frag} {H H' : Hp} {a : Addr} {xs : List V} (e : Same H H') (h : SqL K H a xs) : SqL K H' a xs := by
  rcases h with (h | ⟨o, h⟩) | h
  · exact .inl (.inl (e _ _ h))
  · exact .inl (.inr ⟨o, e _ _ h⟩)
  · exact .inr h
end L2
namespace L2
open PySem PySem.Spec PyProof.Rows
theorem wpAny_unpure {α β : Type} {M : Model} {A : Around} {a : α} {Q : α → Shared → Prop} {E : Value → Shared → Prop} {s : Shared} {t2 : Sem β} {Q2 : β → Shared → Prop} {E2 : Value → Shared → Prop}
    (h : wpAny M A (pure a : Sem α) Q E s) (k : Q a s → wpAny M A t2 Q2 E2 s) : wpAny M A t2 Q2 E2 s := fun Γ p hΓ => k (h Γ p hΓ) Γ p hΓ
def PTs (X : Cx) (ifs : List Expr) (t : TT) : Prop :=
  ∀ (pins : List (Addr × Obj)) (s : Shared) (σ : St) (H : Hp) (Q : Bool → Hp → Prop), Inv X pins σ H s → t σ H Q →
    wpAny (model X.prog X.w) X.A (forIn ifs true fun c r => if r = true then do let ok ← isTrue c X.env (eval c X.env); pure (ForInStep.yield ok) else pure (ForInStep.yield r)) (TP X pins σ Q) X.xe s
def tNoTest : TT := fun _ H Q => Q true H
theorem pts_nil {X : Cx} : PTs X [] tNoTest := fun _ _ _ H _ I h => wpAny_tests_nil ⟨H, I, h⟩
theorem pts_one {X : Cx} {c : Expr} {t : TT} (h : PT X c t) : PTs X [c] t := fun pins s σ H Q I hq => wpAny_tests_one (h pins s σ H Q I hq)
def clOf (cells : List (Str × Addr)) (names : List (Str × NameKind)) (acc : List (Str × Addr)) : List (Str × Addr) :=
  match names with
  | [] => acc
  | (n, k) :: r => clOf cells r (if k == .free then (n, (cells.lookup n).getD 0) :: acc else acc)
theorem closure_loop {env : Env} : ∀ (names : List (Str × NameKind)) (acc : List (Str × Addr)), (∀ y ∈ names, y.2 = .free → ∃ c, env.cells.lookup y.1 = some c) →
    (forIn names acc fun (x : Str × NameKind) (r : List (Str × Addr)) => if (x.2 == .free) = true then (do let a ← cellOf env x.1; pure (ForInStep.yield ((x.1, a) :: r)) : Sem (ForInStep (List (Str × Addr)))) else pure (ForInStep.yield r)) = (pure (clOf env.cells names acc) : Sem (List (Str × Addr)))
  | [], acc, _ => rfl
  | (n, k) :: r, acc, h => by
    have ih := closure_loop (env := env) r
    rw [List.forIn_cons]
    by_cases hk : (k == NameKind.free) = true
    · obtain ⟨c, hc⟩ := h (n, k) List.mem_cons_self (by simpa using hk)
      have hc' : cellOf env n = pure c := by unfold cellOf; rw [hc]
      dsimp only
      rw [if_pos hk, hc']
      have e : clOf env.cells ((n, k) :: r) acc = clOf env.cells r ((n, c) :: acc) := by
        show clOf env.cells r (if (k == NameKind.free) = true then (n, (env.cells.lookup n).getD 0) :: acc else acc) = _
        rw [if_pos hk, hc]; rfl
      rw [e, ← ih ((n, c) :: acc) fun y hy => h y (List.mem_cons_of_mem _ hy)]
      rfl
    · dsimp only
      rw [if_neg hk]
      have e : clOf env.cells ((n, k) :: r) acc = clOf env.cells r acc := by
        show clOf env.cells r (if (k == NameKind.free) = true then (n, (env.cells.lookup n).getD 0) :: acc else acc) = _
        rw [if_neg hk]
      rw [e, ← ih acc fun y hy => h y (List.mem_cons_of_mem _ hy)]
      rfl
theorem closureFor_some {scope : Scope} {env : Env} (h : ∀ y ∈ scope.names, y.2 = .free → ∃ c, env.cells.lookup y.1 = some c) : closureFor scope env = pure (clOf env.cells scope.names []) := by
  unfold closureFor
  have e := closure_loop (env := env) scope.names [] h
  first
    | exact e
    | (simp only [bind_pure_comp, map_pure] at *; exact e)
    | (rw [← e]; simp)
theorem clOf_mem {cells : List (Str × Addr)} : ∀ (names : List (Str × NameKind)) (acc : List (Str × Addr)) (p : Str × Addr), (∀ y ∈ names, y.2 = .free → ∃ c, cells.lookup y.1 = some c) → p ∈ clOf cells names acc → p ∈ acc ∨ (cells.lookup p.1 = some p.2 ∧ (p.1, NameKind.free) ∈ names)
  | [], acc, p, _, h => .inl h
  | (n, k) :: r, acc, p, hn, h => by
    have h' : p ∈ clOf cells r (if (k == NameKind.free) = true then (n, (cells.lookup n).getD 0) :: acc else acc) := h
    rcases clOf_mem r _ p (fun y hy => hn y (List.mem_cons_of_mem _ hy)) h' with q | ⟨q1, q2⟩
    · by_cases hk : (k == NameKind.free) = true
      · rw [if_pos hk] at q
        rcases List.mem_cons.mp q with e | q
        · have hk' : k = .free := by simpa using hk
          obtain ⟨c, hc⟩ := hn (n, k) List.mem_cons_self hk'
          subst e
          refine .inr ⟨?_, ?_⟩
          · show cells.lookup n = some ((cells.lookup n).getD 0)
            have hc' : cells.lookup n = some c := hc
            rw [hc']; rfl
          · rw [← hk']; exact List.mem_cons_self
        · exact .inl q
      · rw [if_neg hk] at q
        exact .inl q
    · exact .inr ⟨q1, List.mem_cons_of_mem _ q2⟩
theorem clOf_has {cells : List (Str × Addr)} : ∀ (names : List (Str × NameKind)) (acc : List (Str × Addr)) (n : Str), ((n, NameKind.free) ∈ names ∨ ∃ c, (n, c) ∈ acc) → ∃ c, (n, c) ∈ clOf cells names acc
  | [], acc, n, h => by
    rcases h with h | h
    · cases h
    · exact h
  | (m, k) :: r, acc, n, h => by
    show ∃ c, (n, c) ∈ clOf cells r (if (k == NameKind.free) = true then (m, (cells.lookup m).getD 0) :: acc else acc)
    refine clOf_has r _ n ?_
    rcases h with h | ⟨c, h⟩
    · rcases List.mem_cons.mp h with e | h
      · injection e with e1 e2
        subst e1; subst e2
        exact .inr ⟨_, by rw [if_pos (show (NameKind.free == NameKind.free) = true from rfl)]; exact List.mem_cons_self⟩
      · exact .inl h
    · refine .inr ⟨c, ?_⟩
      split
      · exact List.mem_cons_of_mem _ h
      · exact h
theorem lookup_of_mem {α : Type} {n : Str} {c : α} : ∀ {l : List (Str × α)}, (n, c) ∈ l → ∃ d, l.lookup n = some d ∧ (n, d) ∈ l
  | (m, d) :: r, h => by
    by_cases e : n = m
    · subst e
      exact ⟨d, by simp [List.lookup_cons], List.mem_cons_self⟩
    · rcases List.mem_cons.mp h with q | q
      · injection q with q1 _
        exact absurd q1 e
      · obtain ⟨d', h1, h2⟩ := lookup_of_mem q
        refine ⟨d', ?_, List.mem_cons_of_mem _ h2⟩
        rw [List.lookup_cons]
        have : (n == m) = false := beq_eq_false_iff_ne.mpr e
        rw [this]; exact h1
structure CompScope (N : List Str) (sc scope : Scope) (x : Str) (caps : List Nat) (ns : List Str) : Prop where
  cell : ∀ y ∈ scope.names, y.2 ≠ .cell
  kind : scope.kind = .function
  names : ∀ y ∈ scope.names, y.2 = .local → scope.names.lookup y.1 = some .local
  var : scope.names.lookup x = some .local
  free : ∀ y ∈ scope.names, y.2 = .free → sc.names.lookup y.1 = some .cell ∨ sc.names.lookup y.1 = some .free
  at_ : caps.map (fun j => N[j]?) = ns.map some
  nsf : ∀ y ∈ ns, scope.names.lookup y = some .free
  nd : (x :: ns).Nodup
def Cx.comp (X : Cx) (N' : List Str) (scope : Scope) (cl : List (Str × Addr)) (C : Addr) (s : Shared) (H : Hp) (fp : List Addr) : Cx :=
  { X with N := N', s₀ := s, H₀ := H, env := compEnvC scope cl C X.env, outer := X.stack, ex := fp, fn := fun _ => false, xe := fun _ _ => False }
def capσ (caps : List Nat) (σ : St) (v : Option V) : St := v :: caps.map fun j => (σ[j]?).getD none
def tCompR (wi : TI) (caps : List Nat) (tt : TT) (te : TE) (σ : St) (H : Hp) (R : List V → Hp → Prop) : Prop := wi σ H fun J H1 => ∃ W : Nat → Nat → List V → Hp → Prop, (∃ m, W 0 m [] H1) ∧ ∀ i m ys H, W i m ys H →
  ys.length ≤ sizeLine ∧ ((J.stop i H ∧ R ys H) ∨ (J.go i H ∧ ∃ N : List V → Hp → Prop, (∀ ys' H', N ys' H' → ∃ m', m' < m ∧ W (i + 1) m' ys' H') ∧ ∀ v H', J.yld i H v H' → tt (capσ caps σ (some v)) H' fun b H2 =>
    if b = true then te (capσ caps σ (some v)) H2 fun y H3 => N (ys ++ [y]) H3 else N ys H2))
def tComp (wi : TI) (caps : List Nat) (tt : TT) (te : TE) : TE := fun σ H Q => tCompR wi caps tt te σ H fun ys H1 => ∀ D, H1 D = none → Q (.ref D) (upd H1 D (.lst ys))
theorem kindOf_relabel {scope : Scope} {env : Env} {y : Str} (h : ((relabel scope env).names.lookup y = some .cell ∨ (relabel scope env).names.lookup y = some .free)) (hc : ∀ y ∈ scope.names, y.2 ≠ .cell) : (y, NameKind.free) ∈ scope.names := by
  have h' : ∃ k, (k = .cell ∨ k = .free) ∧ (y, k) ∈ (relabel scope env).names := by
    rcases h with h | h
    · exact ⟨_, .inl rfl, PySem.mem_of_lookup h⟩
    · exact ⟨_, .inr rfl, PySem.mem_of_lookup h⟩
  obtain ⟨k, hk, hm⟩ := h'
  unfold relabel at hm
  obtain ⟨⟨n, k0⟩, hm0, e⟩ := List.mem_map.mp hm
  dsimp only at e
  split at e
  · rename_i hcond
    injection e with e1 e2
    subst e1
    have : k0 = .free := by
      simp only [Bool.and_eq_true] at hcond
      simpa using hcond.1.1
    subst this
    exact hm0
  · injection e with e1 e2
    subst e1; subst e2
    rcases hk with rfl | rfl
    · exact absurd rfl (hc _ hm0)
    · exact hm0
theorem lookup_relabel_free {env : Env} : ∀ {names : List (Str × NameKind)} {x : Str}, names.lookup x = some .free →
    (names.map fun (n, k) => if (k == NameKind.free && env.scope.kind == .function && env.kindOf n == some .cell) then (n, NameKind.cell) else (n, k)).lookup x = some .cell ∨
    (names.map fun (n, k) => if (k == NameKind.free && env.scope.kind == .function && env.kindOf n == some .cell) then (n, NameKind.cell) else (n, k)).lookup x = some .free
  | [], _, h => by simp at h
  | (n, k) :: r, x, h => by
    have ih := @lookup_relabel_free env r x
    show (List.lookup x ((if (k == NameKind.free && env.scope.kind == .function && env.kindOf n == some .cell) = true then (n, NameKind.cell) else (n, k)) :: _) = _) ∨ (List.lookup x ((if (k == NameKind.free && env.scope.kind == .function && env.kindOf n == some .cell) = true then (n, NameKind.cell) else (n, k)) :: _) = _)
    cases hx : x == n with
    | true =>
      simp only [List.lookup_cons, hx] at h
      cases h
      split
      · left; simp [List.lookup_cons, hx]
      · right; simp [List.lookup_cons, hx]
    | false =>
      simp only [List.lookup_cons, hx] at h
      by_cases hc : (k == NameKind.free && env.scope.kind == .function && env.kindOf n == some .cell) = true
      · rw [if_pos hc]; simp only [List.lookup_cons, hx]; exact ih h
      · rw [if_neg hc]; simp only [List.lookup_cons, hx]; exact ih h
section
variable {X : Cx}
theorem comp_core {x : Str} {px : Pos} {iter elt : Expr} {ifs : List Expr} {scope : Scope} {pos pos' : Pos} {wi : TI} {tt : TT} {te : TE} {caps : List Nat} {ns : List Str} {use : Option (Value → Sem Unit)} {Q : Value → Shared → Prop}
    {pins : List (Addr × Obj)} {s : Shared} {σ : St} {H : Hp} {R : List V → Hp → Prop}
    (CS : CompScope X.N X.env.scope scope x caps ns) (hc : X.calm = true) (hi : PI X (.Name x px) iter wi)
    (ht : ∀ cl C s H fp, PTs (X.comp (x :: ns) scope cl C s H fp) ifs tt) (he : ∀ cl C s H fp, PE (X.comp (x :: ns) scope cl C s H fp) elt te)
    (hs : ∀ v, foldedSetIterable iter X.env v = pure v)
    (I : Inv X pins σ H s) (h : tCompR wi caps tt te σ H R)
    (hend : ∀ D C s' H' ys, Inv X pins σ (upd H' D (.lst ys)) s' → H' D = none → R ys H' → (∃ m, s'.heap.Ns C m) → (upd H' D (.lst ys)) C = none → C ≠ X.env.locals → X.s₀.heap.objs.size ≤ C → (∀ y c, X.env.cells.lookup y = some c → c ≠ C) → (∀ p ∈ X.pn ++ pins, p.1 ≠ C) →
      compPost (model X.prog X.w) X.A X.xe use Q (.ref D) C (.ok .next) s') :
    wpAny (model X.prog X.w) X.A (comprehension (.ListComp elt [⟨.Name x px, iter, ifs, 0⟩] scope pos) scope X.env pos' (newList []) false (eval iter X.env) use) Q X.xe s := by
  have hcells : ∀ y ∈ scope.names, y.2 = .free → ∃ c, X.env.cells.lookup y.1 = some c := fun y hy hf => I.ok.has y.1 (CS.free y hy hf)
  refine wpAny_comprehension_free (use := use) rfl hs (closureFor_some hcells) CS.kind CS.names ?_
  refine thn (hi pins s σ H _ I h) fun v s1 h1 => thn h1 fun itv s2 h2 => ?_
  obtain ⟨it, fp, tn, J, H2, e, I2, T, st2, f2, W, ⟨m0, w0⟩, turn⟩ := h2
  subst e
  refine wpAny_newObj_type (wpAny_newFunctionEnv CS.cell (by intro y hy; simp at hy) (fun h₁ hns₁ hsb₁ => ?_) CS.kind)
  dsimp only at hns₁ hsb₁ ⊢
  generalize hHH : s2.heap.push { cls := .type "list", dict := none, data := .seq ([] : List Value).toArray } = HH at hns₁ hsb₁ ⊢
  have hC : HH.objs.size = s2.heap.objs.size + 1 := by rw [← hHH, Heap.size_push]
  generalize hCe : HH.objs.size = C at hns₁ hsb₁ hC ⊢
  have hDC : s2.heap.objs.size ≠ C := by rw [hC]; exact Nat.ne_of_lt (Nat.lt_succ_self _)
  have below : ∀ b, b < s2.heap.objs.size → b ≠ C ∧ b ≠ s2.heap.objs.size := fun b hb => ⟨by rw [hC]; exact Nat.ne_of_lt (Nat.lt_succ_of_lt hb), Nat.ne_of_lt hb⟩
  have old : ∀ b o, s2.heap.get? b = some o → h₁.get? b = some o := fun b o e => hsb₁.extBut b o (below b (Heap.lt_size e)).1 (Heap.get?_push_of_some _ (hHH ▸ Heap.get?_push_of_some _ e))
  have hacc : h₁.get? s2.heap.objs.size = some (LCg.lst []) := hsb₁.extBut _ _ hDC (Heap.get?_push_of_some _ (hHH ▸ Heap.get?_push_size _ rfl))
  have nfp : ∀ b ∈ fp, b < s2.heap.objs.size := fun b hb => let ⟨o, e, _⟩ := T.obj _ _ st2 b hb; Heap.lt_size e
  have clsub : ∀ y c, (clOf X.env.cells scope.names []).lookup y = some c → X.env.cells.lookup y = some c := fun y c e => by
    rcases clOf_mem scope.names [] (y, c) hcells (PySem.mem_of_lookup e) with q | q
    · cases q
    · exact q.1
  have fresh2 : ∀ a, s2.heap.objs.size ≤ a → H2 a = none := fun a ha => I2.hok.fresh ha
  generalize hcl : clOf X.env.cells scope.names [] = cl at clsub ⊢
  have clhas : ∀ y, (y, NameKind.free) ∈ scope.names → ∃ c, cl.lookup y = some c := fun y hy => by
    obtain ⟨c, q⟩ := clOf_has (cells := X.env.cells) scope.names [] y (.inl hy)
    rw [hcl] at q
    obtain ⟨d, q1, _⟩ := lookup_of_mem q
    exact ⟨d, q1⟩
  have ltC : ∀ y c, X.env.cells.lookup y = some c → c < s2.heap.objs.size := fun y c e => let ⟨v, z⟩ := I2.cell y c e; z.lt
  have ok' : (X.comp (x :: ns) scope cl C s2 H2 fp).Ok := by
    refine ⟨I2.ok.mod, CS.kind, I2.ok.glob, I2.ok.blt, (by show s2.heap.objs.size ≤ C; rw [hC]; exact Nat.le_succ _), fun y z c a b => I2.ok.inj y z c (clsub y c a) (clsub z c b), fun y hy => clhas y (kindOf_relabel hy CS.cell), fun y c z => (by cases z), I2.ok.hd, I2.ok.frames, .inl rfl,
      fun b hb => ⟨(below b (nfp b hb)).1, fun y c e z => (f2 b hb).2.2.2.2.1 y c (clsub y c e) z⟩, fun b o e => I2.bs b o e, Nat.le_trans I2.ok.bsz I2.sz, fun b o e hb => ?_, fun b hb hf => ?_, I2.stack, I2.stkFree⟩
    · rcases (f2 b hb).2.2.2.1 with z | z
      · exact I2.ok.noex b o e z
      · exact absurd (Nat.lt_of_lt_of_le (Heap.lt_size e) (Nat.le_trans I2.ok.bsz z)) (Nat.lt_irrefl _)
    · rcases List.mem_cons.mp (I2.stkSub b hf) with z | z
      · exact (f2 b hb).2.1 z
      · exact (f2 b hb).2.2.1 z
  have capget : ∀ (k : Nat) (y : Str) (v : V), (x :: ns)[k]? = some y → (capσ caps σ none)[k]? = some (some v) → ∃ j, X.N[j]? = some y ∧ σ[j]? = some (some v) ∧ scope.names.lookup y = some .free := fun k y v e1 e2 => by
    cases k with
    | zero => cases e2
    | succ k =>
      have e1' : ns[k]? = some y := by simpa using e1
      have e2' : (caps.map fun j => (σ[j]?).getD none)[k]? = some (some v) := by simpa [capσ] using e2
      have e3 : (ns.map some)[k]? = some (some y) := by rw [List.getElem?_map, e1']; rfl
      rw [← CS.at_, List.getElem?_map] at e3
      rw [List.getElem?_map] at e2'
      cases hj : caps[k]? with
      | none => rw [hj] at e3; cases e3
      | some j =>
        rw [hj] at e3 e2'
        have e4 : X.N[j]? = some y := Option.some.inj e3
        have e5 : (σ[j]?).getD none = some v := Option.some.inj e2'
        refine ⟨j, e4, ?_, CS.nsf y (List.mem_of_getElem? e1')⟩
        cases hσ : σ[j]? with
        | none => rw [hσ] at e5; cases e5
        | some z => rw [hσ] at e5; have e6 : z = some v := e5; rw [e6]
  have visfree : ∀ y, scope.names.lookup y = some .free → X.env.kindOf y = some .cell ∨ X.env.kindOf y = some .free := fun y hy => CS.free (y, .free) (PySem.mem_of_lookup hy) rfl
  have I0 : Inv (X.comp (x :: ns) scope cl C s2 H2 fp) (pins ++ [(s2.heap.objs.size, LCg.lst [])]) (capσ caps σ none) H2 { s2 with heap := h₁, toks := s2.toks + ([] : List (Str × Value)).length } := by
    obtain ⟨m2, hn2, hl2⟩ := I2.loc
    refine ⟨ok', rfl, I2.bare, Un.kept old, ⟨_, hns₁, fun k y v e1 e2 e3 => ?_⟩, fun y c e => ?_, fresh2 C (by rw [hC]; exact Nat.le_succ _), fun y c e => I2.freeC y c (clsub y c e), fun p hp => ?_, I2.hok.kept old, ?_⟩
    · obtain ⟨j, q1, q2, q3⟩ := capget k y v e1 e2
      have vf := visfree y q3
      obtain ⟨u, ru, lk⟩ := hl2 j y v q1 q2 (vf.elim (fun z => .inr (.inl z)) fun z => .inr (.inr z))
      refine ⟨u, ru, .inr ⟨lookup_relabel_free q3, ?_⟩⟩
      obtain ⟨c, hcl'⟩ := clhas y (PySem.mem_of_lookup q3)
      refine ⟨c, hcl', ?_⟩
      rcases lk with ⟨k1, _⟩ | ⟨_, c', e', z⟩
      · rcases vf with vf | vf <;> (rw [k1] at vf; cases vf)
      · have q := clsub y c hcl'
        rw [e'] at q
        cases q
        exact z.keeps old
    · obtain ⟨v, z⟩ := I2.cell y c (clsub y c e)
      exact ⟨v, z.keeps old⟩
    · rcases List.mem_append.mp hp with hp | hp
      · obtain ⟨a1, a2, a3, a4, a5⟩ := I2.pin p (List.mem_append_left _ hp)
        refine ⟨old _ _ a1, a2, (below _ (Heap.lt_size a1)).1, fun z => ?_, a5⟩
        rcases List.mem_cons.mp (I2.stkSub _ z) with z | z
        · exact a3 z
        · exact a4 z
      · rcases List.mem_append.mp hp with hp | hp
        · obtain ⟨a1, a2, a3, a4, a5⟩ := I2.pin p (List.mem_append_right _ hp)
          refine ⟨old _ _ a1, a2, (below _ (Heap.lt_size a1)).1, fun z => ?_, a5⟩
          rcases List.mem_cons.mp (I2.stkSub _ z) with z | z
          · exact a3 z
          · exact a4 z
        · have e : p = (s2.heap.objs.size, LCg.lst []) := by simpa using hp
          subst e
          refine ⟨hacc, fresh2 _ (Nat.le_refl _), hDC, fun z => ?_, fun v z => by cases z⟩
          rcases List.mem_cons.mp (I2.stkSub _ z) with z | z
          · exact absurd I2.lt (by rw [← z]; exact Nat.lt_irrefl _)
          · exact I2.nofs (Nat.le_refl _) z
    · show (capσ caps σ none).length = (x :: ns).length
      have := congrArg List.length CS.at_
      simp only [List.length_map] at this
      simp [capσ, this]
  have loop : ∀ s₃ : Shared, s₃ = { s2 with heap := h₁, toks := s2.toks + ([] : List (Str × Value)).length } →
      codeAny (model X.prog X.w) X.A (.compLoop (.ListComp elt [⟨.Name x px, iter, ifs, 0⟩] scope pos) 0 (.ref it) (.ref s2.heap.objs.size) (compEnvC scope cl C X.env))
        (compPost (model X.prog X.w) X.A X.xe use Q (.ref s2.heap.objs.size) C) s₃ := by
    rintro s₃ rfl
    refine codeAny_compLoop_tests (fun n s' => ∃ i ys us H', Inv (X.comp (x :: ns) scope cl C s2 H2 fp) (pins ++ [(s2.heap.objs.size, LCg.lst us)]) (capσ caps σ none) H' s' ∧ Vals ys us ∧ tn i s'.heap ∧ (∀ b ∈ fp, H' b = none) ∧ W i n ys H') ?_ m0
      ⟨0, [], [], H2, I0, .nil, T.keep _ _ _ st2 (fun b _ o e => old b o e), fun b hb => (f2 b hb).1, w0⟩
    rintro n s3 ⟨i, ys, us, H3, I3, rv, st3, fr3, w3⟩
    obtain ⟨hle, hstep⟩ := turn i n ys H3 w3
    have pinlt : ∀ p ∈ X.pn ++ pins, p.1 < s2.heap.objs.size := fun p hp => Heap.lt_size (I2.pin p hp).1
    have stat : ∀ {H' : Hp}, (∀ b ∈ fp, H' b = none) → ∀ b ∈ fp, FpOk (X.comp (x :: ns) scope cl C s2 H2 fp) (pins ++ [(s2.heap.objs.size, LCg.lst us)]) H' b := fun hn b hb =>
      ⟨hn b hb, (below b (nfp b hb)).1, ok'.exfs b hb, .inl hb, fun y c e z => (f2 b hb).2.2.2.2.1 y c (clsub y c e) z, fun p hp => by
        rcases List.mem_append.mp hp with hp | hp
        · exact (f2 b hb).2.2.2.2.2 p (List.mem_append_left _ hp)
        · rcases List.mem_append.mp hp with hp | hp
          · exact (f2 b hb).2.2.2.2.2 p (List.mem_append_right _ hp)
          · have e : p = (s2.heap.objs.size, LCg.lst us) := by simpa using hp
            subst e
            exact Ne.symm (below b (nfp b hb)).2⟩
    have memD : ∀ (l : List (Addr × Obj)), (s2.heap.objs.size, LCg.lst us) ∈ (X.comp (x :: ns) scope cl C s2 H2 fp).pn ++ ((pins ++ [(s2.heap.objs.size, LCg.lst us)]) ++ l) := fun l =>
      List.mem_append_right _ (List.mem_append_left _ (List.mem_append_right _ List.mem_cons_self))
    rcases hstep with ⟨stop, r⟩ | ⟨go, Nx, hNx, step⟩
    · refine thn (T.done (X.comp (x :: ns) scope cl C s2 H2 fp) rfl rfl rfl hc i _ s3 _ H3 _ I3 (stat fr3) st3 stop) fun r' s4 ⟨hr, I4⟩ => ?_
      subst hr
      have pD := I4.pin (s2.heap.objs.size, LCg.lst us) (List.mem_append_right _ (List.mem_append_right _ List.mem_cons_self))
      have hDn : H3 s2.heap.objs.size = none := pD.2.1
      have hCn : H3 C = none := I4.free
      have b4 : Un (frs X.stack) fp H2 H3 s2.heap s4.heap := I4.base
      have u4 : Un (frs X.stack) fp H2 (upd H3 s2.heap.objs.size (.lst ys)) s2.heap s4.heap :=
        ⟨b4.keep, b4.slot, fun b o e n hx => by rw [upd_ne (below b (Heap.lt_size e)).2]; exact b4.free b o e n hx, b4.there,
          fun b xs q => by rw [upd_ne (ne_of_none (b4.tups b xs q) hDn)]; exact b4.tups b xs q, fun b o u q => by rw [upd_ne (ne_of_none (b4.frzs b o u q) hDn)]; exact b4.frzs b o u q,
          fun b ps q => by
            obtain ⟨m1, e1⟩ := b4.tbls b ps q
            exact ⟨m1, by rw [upd_ne (ne_of_none e1 hDn)]; exact e1⟩⟩
      have k4 : HOk X.prog X.w (upd H3 s2.heap.objs.size (.lst ys)) s4.heap := fun b u e => by
        by_cases hb : b = s2.heap.objs.size
        · subst hb
          rw [upd_same] at e
          cases e
          exact ⟨hle, us, _, rv, pD.1⟩
        · rw [upd_ne hb] at e
          exact (I4.hok b u e).stay (fun c v _ q => q) (fun c q => by rw [upd_ne (ne_of_none q hDn)]; exact q) fun c xs q => by rw [upd_ne (ne_of_none q hDn)]; exact q
      have J4 : Inv X pins σ (upd H3 s2.heap.objs.size (.lst ys)) s4 := I2.call' (ch := fp) I4.os u4 k4 I4.bare fun b hb => ⟨(f2 b hb).2.2.2.1, (f2 b hb).2.1, (f2 b hb).2.2.2.2.1, (f2 b hb).2.2.2.2.2⟩
      obtain ⟨mC, hnC, _⟩ := I4.loc
      exact hend _ C s4 H3 ys J4 hDn r ⟨mC, hnC⟩ (by rw [upd_ne (Ne.symm hDC)]; exact hCn) (Ne.symm (below _ I2.lt).1) (by rw [hC]; exact Nat.le_succ_of_le I2.sz) (fun y c e => (below c (ltC y c e)).1) fun p hp => (below _ (pinlt p hp)).1
    · refine thn (T.item (X.comp (x :: ns) scope cl C s2 H2 fp) rfl rfl rfl hc i _ s3 _ H3 _ I3 (stat fr3) st3 go) fun r' s4 ⟨u, hr, h4⟩ => ?_
      subst hr
      refine wpAny_unpure h4 fun ⟨v, H5, I5, r5, y5, st5, fr5⟩ => ?_
      have I5' := I5.pinned (stat fr5) (T.obj _ _ st5)
      refine wpAny_assign_Name (store_ok (X := X.comp (x :: ns) scope cl C s2 H2 fp) (i := 0) I5' CS.nd rfl (.inl (lookup_relabel_local CS.var)) r5 (fun s6 I6 => ?_) (.inr (lookup_relabel_local CS.var)))
      have I6' : Inv (X.comp (x :: ns) scope cl C s2 H2 fp) ((pins ++ [(s2.heap.objs.size, LCg.lst us)]) ++ pinsAt fp s4.heap) (capσ caps σ (some v)) H5 s6 := I6
      refine wpAny_mono (ht cl C s2 H2 fp _ s6 _ H5 _ I6' (step v H5 y5)) (fun b s7 ⟨H7, I7, q7⟩ => ?_) (fun _ _ e => e.elim)
      have weak : ∀ {H' : Hp} {s' : Shared} {pl : List (Addr × Obj)}, Inv (X.comp (x :: ns) scope cl C s2 H2 fp) pl (capσ caps σ (some v)) H' s' → Inv (X.comp (x :: ns) scope cl C s2 H2 fp) pl (capσ caps σ none) H' s' := fun {H' s' pl} J' =>
        J'.weak rfl fun k z e => by
          cases k with
          | zero => cases e
          | succ k => exact e
      have keepT : ∀ {H' : Hp} {s' : Shared}, Inv (X.comp (x :: ns) scope cl C s2 H2 fp) ((pins ++ [(s2.heap.objs.size, LCg.lst us)]) ++ pinsAt fp s4.heap) (capσ caps σ (some v)) H' s' → tn (i + 1) s'.heap ∧ ∀ b ∈ fp, H' b = none := fun {H' s'} J' => by
        refine ⟨T.keep _ _ _ st5 fun b hb o e => (J'.pin (b, o) (List.mem_append_right _ (List.mem_append_right _ (mem_pinsAt hb e)))).1, fun b hb => ?_⟩
        obtain ⟨o, e, d⟩ := T.obj _ _ st5 b hb
        exact (J'.pin (b, o) (List.mem_append_right _ (List.mem_append_right _ (mem_pinsAt hb e)))).2.1
      cases b with
      | false =>
        rw [if_neg Bool.false_ne_true] at q7 ⊢
        obtain ⟨m', hm, w7⟩ := hNx _ _ q7
        exact ⟨m', hm, i + 1, ys, us, H7, weak I7.unpinned, rv, (keepT I7).1, (keepT I7).2, w7⟩
      | true =>
        rw [if_pos rfl] at q7 ⊢
        refine wpAny_mono (he cl C s2 H2 fp _ s7 _ H7 _ I7 q7) (fun yv s8 ⟨y, H8, I8, ry, n8⟩ => ?_) (fun _ _ e => e.elim)
        obtain ⟨m', hm, w8⟩ := hNx _ _ n8
        have pD := I8.pin (s2.heap.objs.size, LCg.lst us) (memD _)
        have hul : us.length = ys.length := rv.length.symm
        refine append_at (hsz := by show us.toArray.size ≤ sizeLine; rw [List.size_toArray, hul]; exact hle) pD.1 fun h9 hs9 hD9 => ?_
        have I8p : Inv (X.comp (x :: ns) scope cl C s2 H2 fp) pins (capσ caps σ none) H8 s8 := weak I8.unpinned.unpinned
        have I9 : Inv (X.comp (x :: ns) scope cl C s2 H2 fp) pins (capσ caps σ none) H8 { s8 with heap := h9 } := I8p.turned (t' := s8.toks) (it := s2.heap.objs.size) (fun b o hb e => (hs9.2 b hb).trans e) pD.2.1 hDC (.inr (Nat.le_refl _)) (fun y c e z => Nat.ne_of_lt (ltC y c (clsub y c e)) z) fun p hp => Nat.ne_of_lt (pinlt p hp)
        have I9' : Inv (X.comp (x :: ns) scope cl C s2 H2 fp) (pins ++ [(s2.heap.objs.size, LCg.lst (us ++ [yv]))]) (capσ caps σ none) H8 { s8 with heap := h9 } := I9.pins_of fun p hp => by
          rcases List.mem_append.mp hp with hp | hp
          · exact I9.pin p (List.mem_append_right _ hp)
          · have e : p = (s2.heap.objs.size, LCg.lst (us ++ [yv])) := by simpa using hp
            subst e
            exact ⟨hD9.trans (congrArg some (LCg.lst_snoc us yv)), pD.2.1, hDC, pD.2.2.2.1, fun v z => by cases z⟩
        refine ⟨m', hm, i + 1, ys ++ [y], us ++ [yv], H8, I9', rv.append (.cons ry .nil), ?_, (keepT I8).2, w8⟩
        exact T.keep _ _ _ (keepT I8).1 fun b hb o e => (hs9.2 b (below b (nfp b hb)).2).trans e
  exact codeAny_compStart_list (loop _ rfl) (T.self X.A 0 _ _ _ (T.keep _ _ _ st2 (fun b _ o e => old b o e)) (loop _ rfl))
theorem comp_list {K : PySem.W.Frag} {a : Addr} {xs : List V} {caps : List Nat} {tt : TT} {te : TE} {σ : St} {H : Hp} {R : List V → Hp → Prop} (Pv : Nat → List V → Hp → Prop) (h0 : Pv 0 [] H) (hl : ∀ i ys H, i ≤ xs.length → Pv i ys H → SqL K H a xs ∧ ys.length ≤ sizeLine)
    (hs : ∀ i x ys H, xs[i]? = some x → Pv i ys H → tt (capσ caps σ (some x)) H fun b H2 => if b = true then te (capσ caps σ (some x)) H2 fun y H3 => Pv (i + 1) (ys ++ [y]) H3 else Pv (i + 1) ys H2) (hd : ∀ ys H, Pv xs.length ys H → R ys H) :
    ∃ W : Nat → Nat → List V → Hp → Prop, (∃ m, W 0 m [] H) ∧ ∀ i m ys H, W i m ys H → ys.length ≤ sizeLine ∧ (((Itl K a).stop i H ∧ R ys H) ∨ ((Itl K a).go i H ∧ ∃ N : List V → Hp → Prop, (∀ ys' H', N ys' H' → ∃ m', m' < m ∧ W (i + 1) m' ys' H') ∧ ∀ v H', (Itl K a).yld i H v H' →
      tt (capσ caps σ (some v)) H' fun b H2 => if b = true then te (capσ caps σ (some v)) H2 fun y H3 => N (ys ++ [y]) H3 else N ys H2)) := by
  refine ⟨fun i m ys H => m = xs.length - i ∧ i ≤ xs.length ∧ Pv i ys H, ⟨xs.length, by simp, Nat.zero_le _, h0⟩, ?_⟩
  rintro i m ys H ⟨rfl, hi, p⟩
  obtain ⟨q, hz⟩ := hl i ys H hi p
  refine ⟨hz, ?_⟩
  by_cases hlt : i < xs.length
  · refine .inr ⟨⟨xs, xs[i], q, by simp [hlt]⟩, Pv (i + 1), fun ys' H' p' => ⟨xs.length - (i + 1), by omega, rfl, hlt, p'⟩, fun x H' y => ?_⟩
    obtain ⟨e, y⟩ := y
    subst e
    exact hs i x ys _ (y xs q) p
  · have e : i = xs.length := by omega
    subst e
    exact .inl ⟨⟨xs, q, Nat.le_refl _⟩, hd ys H p⟩
theorem comp_range {lo : Int} {n : Nat} {caps : List Nat} {tt : TT} {te : TE} {σ : St} {H : Hp} {R : List V → Hp → Prop} (Pv : Nat → List V → Hp → Prop) (h0 : Pv 0 [] H) (hl : ∀ i ys H, i ≤ n → Pv i ys H → ys.length ≤ sizeLine)
    (hs : ∀ i ys H, i < n → Pv i ys H → tt (capσ caps σ (some (.int (lo + i)))) H fun b H2 => if b = true then te (capσ caps σ (some (.int (lo + i)))) H2 fun y H3 => Pv (i + 1) (ys ++ [y]) H3 else Pv (i + 1) ys H2) (hd : ∀ ys H, Pv n ys H → R ys H) :
    ∃ W : Nat → Nat → List V → Hp → Prop, (∃ m, W 0 m [] H) ∧ ∀ i m ys H, W i m ys H → ys.length ≤ sizeLine ∧ (((Itr lo n).stop i H ∧ R ys H) ∨ ((Itr lo n).go i H ∧ ∃ N : List V → Hp → Prop, (∀ ys' H', N ys' H' → ∃ m', m' < m ∧ W (i + 1) m' ys' H') ∧ ∀ v H', (Itr lo n).yld i H v H' →
      tt (capσ caps σ (some v)) H' fun b H2 => if b = true then te (capσ caps σ (some v)) H2 fun y H3 => N (ys ++ [y]) H3 else N ys H2)) := by
  refine ⟨fun i m ys H => m = n - i ∧ i ≤ n ∧ Pv i ys H, ⟨n, by simp, Nat.zero_le _, h0⟩, ?_⟩
  rintro i m ys H ⟨rfl, hi, p⟩
  refine ⟨hl i ys H hi p, ?_⟩
  by_cases hlt : i < n
  · refine .inr ⟨hlt, Pv (i + 1), fun ys' H' p' => ⟨n - (i + 1), by omega, rfl, hlt, p'⟩, fun x H' y => ?_⟩
    obtain ⟨e, y⟩ := y
    subst e y
    exact hs i ys _ hlt p
  · have e : i = n := by omega
    subst e
    exact .inl ⟨Nat.le_refl _, hd ys H p⟩
theorem pe_comp {x : Str} {px : Pos} {iter elt : Expr} {ifs : List Expr} {scope sc : Scope} {N : List Str} {pos : Pos} {wi : TI} {tt : TT} {te : TE} {caps : List Nat} {ns : List Str}
    (CS : CompScope N sc scope x caps ns) (hN' : X.N = N) (hsc : X.env.scope = sc) (hc : X.calm = true) (hi : PI X (.Name x px) iter wi)
    (ht : ∀ cl C s H fp, PTs (X.comp (x :: ns) scope cl C s H fp) ifs tt) (he : ∀ cl C s H fp, PE (X.comp (x :: ns) scope cl C s H fp) elt te)
    (hs : ∀ v, foldedSetIterable iter X.env v = pure v := by intro _; rfl) :
    PE X (.ListComp elt [⟨.Name x px, iter, ifs, 0⟩] scope pos) (tComp wi caps tt te) := by
  intro pins s σ H Q I h
  subst hN'; subst hsc
  rw [eval_ListComp]
  refine comp_core CS hc hi ht he hs I h ?_
  rintro D C s' H' ys I' hD r ⟨m, hn⟩ c1 c2 c3 c4 c5
  exact ⟨m, hn, fun h' hs' => ⟨.ref D, _, I'.turned (t' := s'.toks) (fun b o hb e => (hs'.2 b hb).trans e) c1 c2 (.inr c3) c4 c5, rfl, r D hD⟩⟩
end
end L2
namespace L2
open PySem PySem.Spec PyProof.Rows
theorem bt_len : bootBuiltins "len" = some (.builtin "len") := by decide +kernel
theorem bt_all : bootBuiltins "all" = some (.builtin "all") := by decide +kernel
theorem bt_list : bootBuiltins "list" = some (.type "list") := by decide +kernel
theorem bt_tuple : bootBuiltins "tuple" = some (.type "tuple") := by decide +kernel
theorem bt_int : bootBuiltins "int" = some (.type "int") := by decide +kernel
section
variable {X : Cx}
theorem op_mul_str : OpR X (binaryOp .Mult) (fun x y H Q => ∃ i n, x = .str i ∧ y = .int n ∧ 0 ≤ n ∧ n ≤ 16777216 ∧ i.length * n.toNat ≤ 16777216 ∧ Q (.str (Txt.mul i n)) H) := by
  intro pins s σ H x y v u Q I rx ry h
  obtain ⟨i, n, rfl, rfl, h0, h1, h2, q⟩ := h
  obtain ⟨t, rfl⟩ := rx
  obtain ⟨t', rfl⟩ := ry
  exact SB.mul (mulOk_of i.length n.toNat (Nat.le_refl _) (by omega) (by omega) (by omega) h2) fun t'' k => ⟨.str _, H, I.tok _, ⟨_, rfl⟩, q⟩
theorem strsAre_of {ys : List Str} : ∀ {us : List Value}, Vals (ys.map V.str) us → StrsAre us ys := by
  induction ys with
  | nil => intro us r; cases r; exact .nil
  | cons y ys ih =>
    intro us r
    cases r with
    | cons r1 r2 =>
      obtain ⟨t, rfl⟩ := r1
      exact .cons y t (ih r2)
def rJoin (K : PySem.W.Frag) : V → List V → Hp → VK → Prop := fun x vs H Q => ∃ (z : Str) (p : Addr) (ys : List Str), x = .str z ∧ vs = [.ref p] ∧ (SqL K H p (ys.map V.str) ∨ SqT K H p (ys.map V.str)) ∧ (ys.map (·.length)).sum + ys.length * z.length ≤ 16777216 ∧ Q (.str (Txt.join z ys)) H
theorem mt_join : MtR X "str.join" (rJoin X.K) := by
  intro pins s σ H x vs v us Q I rx rv h
  obtain ⟨z, p, ys, rfl, rfl, hS, hz, q⟩ := h
  obtain ⟨t, rfl⟩ := rx
  obtain ⟨u, rfl, ru⟩ := vals1 rv
  cases ru
  rcases hS with hS | hS
  · obtain ⟨its, r, pl, _⟩ := I.list hS
    exact join_list pl.isList (by simpa using strsAre_of r) hz fun t' k => ⟨.str _, H, I.tok _, ⟨_, rfl⟩, q⟩
  · obtain ⟨its, r, pl, _⟩ := I.tuple hS
    exact join_tuple pl (by simpa using strsAre_of r) hz fun t' k => ⟨.str _, H, I.tok _, ⟨_, rfl⟩, q⟩
def plainV : V → Bool
  | .byt _ => false
  | .flt _ => false
  | _ => true
theorem eqAt_same {A : Around} {s : Shared} {x : V} {u v : Value} (r : RelV x u) (r' : RelV x v) (hx : plainV x = true) : SeqAt.EqAt A s u v true := by
  cases x with
  | non => cases r; cases r'; exact SeqAt.EqAt.same _
  | bl b => cases r; cases r'; exact SeqAt.EqAt.same _
  | int i =>
    obtain ⟨t, rfl⟩ := r; obtain ⟨t', rfl⟩ := r'
    have := SeqAt.EqAt.int_int (A := A) (s := s) i t i t'
    simpa using this
  | str i =>
    obtain ⟨t, rfl⟩ := r; obtain ⟨t', rfl⟩ := r'
    have := SeqAt.EqAt.str_str (A := A) (s := s) i t i t'
    simpa using this
  | ref a => cases r; cases r'; exact SeqAt.EqAt.same _
  | ty n => cases r; cases r'; exact SeqAt.EqAt.same _
  | byt b => cases hx
  | flt b => cases hx
theorem vals_same {A : Around} {s : Shared} {xs : List V} {us vs : List Value} (r : Vals xs us) (r' : Vals xs vs) (hx : xs.all plainV = true) (j : Nat) (h1 : j < us.toArray.size) (h2 : j < vs.toArray.size) : SeqAt.EqAt A s us.toArray[j] vs.toArray[j] true := by
  have hj : j < xs.length := by rw [r.length]; simpa using h1
  obtain ⟨u, hu, ru⟩ := r.get (i := j) (x := xs[j]) (by simp [hj])
  obtain ⟨v, hv, rv⟩ := r'.get (i := j) (x := xs[j]) (by simp [hj])
  have e1 : us.toArray[j] = u := by
    have : us[j]? = some us.toArray[j] := by simp
    rw [hu] at this; exact (Option.some.inj this).symm
  have e2 : vs.toArray[j] = v := by
    have : vs[j]? = some vs.toArray[j] := by simp
    rw [hv] at this; exact (Option.some.inj this).symm
  rw [e1, e2]
  have hp := List.all_eq_true.mp hx xs[j] (List.getElem_mem hj)
  exact eqAt_same ru rv hp
def rEqL (K : PySem.W.Frag) (k : Bool) : R2 := fun x y H Q => ∃ a b xs, x = .ref a ∧ y = .ref b ∧ SqL K H a xs ∧ SqL K H b xs ∧ xs.all plainV = true ∧ Q (.bl k) H
theorem op_eqL (hu : X.A.units < cLine) : OpR X (compareOp .Eq) (rEqL X.K true) := by
  intro pins s σ H x y v u Q I rx ry h
  obtain ⟨a, b, xs, rfl, rfl, ha, hb, hp, q⟩ := h
  cases rx; cases ry
  obtain ⟨its, r, pl, _⟩ := I.list ha
  obtain ⟨its2, r2, pl2, _⟩ := I.list hb
  have hl : its.length = its2.length := by rw [← r.length, ← r2.length]
  refine SeqAt.eq_listAt (e := fun _ => true) pl.isList pl2.isList (by simpa using hl) hu (fun j h1 h2 => vals_same r r2 hp j h1 h2) ⟨.bl true, H, I, ?_, q⟩
  have : ((List.range its.toArray.size).all fun _ => true) = true := by simp
  rw [this]; rfl
theorem op_neL (hu : X.A.units < cLine) : OpR X (compareOp .NotEq) (rEqL X.K false) := by
  intro pins s σ H x y v u Q I rx ry h
  obtain ⟨a, b, xs, rfl, rfl, ha, hb, hp, q⟩ := h
  cases rx; cases ry
  obtain ⟨its, r, pl, _⟩ := I.list ha
  obtain ⟨its2, r2, pl2, _⟩ := I.list hb
  have hl : its.length = its2.length := by rw [← r.length, ← r2.length]
  refine SeqAt.RcNeAt.lists (e := fun _ => true) pl.isList pl2.isList (by simpa using hl) hu (fun j h1 h2 => vals_same r r2 hp j h1 h2) X.prog X.w X.xe _ ⟨.bl false, H, I, ?_, q⟩
  have : ((List.range its.toArray.size).all fun _ => true) = true := by simp
  rw [this]; rfl
structure TopD (w : World) (K : PySem.W.Frag) (a : Addr) (kvs : List (Str × V)) : Prop where
  ex : ∃ (es : Array DictEntry) (n : Nat), K.lookup a = some ⟨.type "dict", none, .dict es n, #[]⟩ ∧ PySem.W.KeysLit w.params es.toList ∧ Paired (fun (p : Str × V) (e : DictEntry) => (∃ t, e.key = .str p.1 t) ∧ RelV p.2 e.val) kvs es.toList
  lo : (a == sysModules) = false
theorem find_paired {x : Str} : ∀ {kvs : List (Str × V)} {es : List DictEntry}, Paired (fun (p : Str × V) (e : DictEntry) => (∃ t, e.key = .str p.1 t) ∧ RelV p.2 e.val) kvs es →
    RelO (kvs.lookup x) ((es.find? fun e => Value.isStrOf x e.key).map (·.val))
  | _, _, .nil => trivial
  | (k, v) :: kvs, e :: es, .cons ⟨⟨t, hk⟩, rv⟩ r => by
    have hk' : e.key = .str k t := hk
    rw [List.lookup_cons, List.find?_cons, hk']
    by_cases hx : x = k
    · subst hx
      have h1 : Value.isStrOf x (.str x t) = true := by simp [Value.isStrOf]
      rw [h1, beq_self_eq_true]
      exact rv
    · have h1 : Value.isStrOf x (.str k t) = false := by
        cases h : Value.isStrOf x (.str k t) with
        | false => rfl
        | true =>
          obtain ⟨t', e'⟩ := Value.isStrOf_shape (x := x) (v := .str k t) h
          injection e' with e1 _
          exact absurd e1.symm hx
      have h2 : (x == k) = false := beq_eq_false_iff_ne.mpr hx
      rw [h1, h2]
      exact find_paired r
theorem TopD.map {w : World} {K : PySem.W.Frag} {a : Addr} {kvs : List (Str × V)} (T : TopD w K a kvs) {prog : Program} {h : Heap} (KX : K.In h) :
    ∃ f : Str → Option Value, h.MapOf (strKind prog w) a f ∧ ∀ x, RelO (kvs.lookup x) (f x) := by
  obtain ⟨es, n, hl, hk, hp⟩ := T.ex
  refine ⟨fun k => findBy Value.isStrOf es k, PySem.W.mapOf_K KX hl hk, fun x => ?_⟩
  have q := find_paired (x := x) hp
  show RelO (List.lookup x kvs) ((es.find? fun e => Value.isStrOf x e.key).map (·.val))
  rw [← Array.find?_toList]
  exact q
def rIxTop (w : World) (K : PySem.W.Frag) : R2 := fun x y H Q => ∃ a k kvs v, x = .ref a ∧ y = .str k ∧ TopD w K a kvs ∧ kvs.lookup k = some v ∧ Q v H
theorem ix_top : IxR X (rIxTop X.w X.K) := by
  intro value slice pins s σ H x y v u Q I rx ry h hs
  obtain ⟨a, k, kvs, z, rfl, rfl, T, hz, q⟩ := h
  cases rx
  obtain ⟨t, rfl⟩ := ry
  obtain ⟨f, hm, hf⟩ := T.map (prog := X.prog) I.kIn
  have hr := hf k
  rw [hz] at hr
  obtain ⟨w', e, r⟩ := hr.some_of
  exact tail_any hm.typeIs slot_dict_getitem.lookup (wpAny_getItem_of (strKind_is X.prog X.w k t) hm e ⟨z, H, I.tok _, r, q⟩) hs
theorem op_in_top : OpR X (compareOp .In) (fun x y H Q => ∃ k a kvs, x = .str k ∧ y = .ref a ∧ TopD X.w X.K a kvs ∧ Q (.bl (kvs.lookup k).isSome) H) := by
  intro pins s σ H x y v u Q I rx ry h
  obtain ⟨k, a, kvs, rfl, rfl, T, q⟩ := h
  cases ry
  obtain ⟨t, rfl⟩ := rx
  obtain ⟨f, hm, hf⟩ := T.map (prog := X.prog) I.kIn
  have hr := hf k
  have e : (f k).isSome = (kvs.lookup k).isSome := by
    cases h1 : kvs.lookup k with
    | none => rw [h1] at hr; rw [hr.none_of]; rfl
    | some z => rw [h1] at hr; obtain ⟨w', e, _⟩ := hr.some_of; rw [e]; rfl
  exact wpAny_in_of (strKind_is X.prog X.w k t) T.lo hm ⟨.bl _, H, I.tok _, by rw [e]; rfl, q⟩
theorem uAdd : OpR X (binaryOp .Add) (fun x y H Q => rI0 (fun i j => .int (i + j)) x y H Q ∨ (∃ i j, x = .str i ∧ y = .str j ∧ i.length + j.length ≤ sizeLine ∧ Q (.str (i ++ j)) H) ∨ rCat x y H Q) := op_add.or (op_add_str.or op_cat)
theorem uMul : OpR X (binaryOp .Mult) (fun x y H Q => rI CMul (fun i j => .int (i * j)) x y H Q ∨ (∃ i n, x = .str i ∧ y = .int n ∧ 0 ≤ n ∧ n ≤ 16777216 ∧ i.length * n.toNat ≤ 16777216 ∧ Q (.str (Txt.mul i n)) H) ∨ rRep x y H Q) := op_mul.or (op_mul_str.or op_rep)
theorem uEq (hu : X.A.units < cLine) : OpR X (compareOp .Eq) (fun x y H Q => rEq x y H Q ∨ rEqL X.K true x y H Q) := op_eq.or (op_eqL hu)
theorem uNe (hu : X.A.units < cLine) : OpR X (compareOp .NotEq) (fun x y H Q => rNe x y H Q ∨ rEqL X.K false x y H Q) := op_ne.or (op_neL hu)
theorem uIn : OpR X (compareOp .In) (fun x y H Q => (∃ i j, x = .str i ∧ y = .str j ∧ Q (.bl (!(Builtin.Str.occurrences j i 0 j.length 1).isEmpty)) H) ∨ rIn X.K false x y H Q ∨ (∃ k a kvs, x = .str k ∧ y = .ref a ∧ TopD X.w X.K a kvs ∧ Q (.bl (kvs.lookup k).isSome) H)) := op_in_str.or (op_in_seq.or op_in_top)
theorem ix_any : IxR X (fun x y H Q => rIxL X.K x y H Q ∨ rIxT X.K x y H Q ∨ rIxS x y H Q ∨ rIxTop X.w X.K x y H Q) := ix_list.or (ix_tup.or (ix_str.or ix_top))
theorem sl_any : SlR X (fun x lo hi H Q => rSlL X.K x lo hi H Q ∨ rSlT X.K x lo hi H Q) := sl_list.or sl_tup
def tCut (t : TS) : TS := fun D σ H => ∃ R : St → Hp → Prop, t { D with nx := R } σ H ∧ ∀ σ' H', R σ' H' → D.nx σ' H'
theorem ps_cut {st : Stmt} {t : TS} (h : PS X st t) : PS X st (tCut t) := fun pins s σ H D I ⟨R, q, hR⟩ => thn (h pins s σ H _ I q) fun f s' hs => by
  cases f with
  | next => obtain ⟨σ', H', I', r⟩ := hs; exact ⟨σ', H', I', hR σ' H' r⟩
  | brk => exact hs
  | cont => exact hs
  | ret v => exact hs
end
end L2
namespace L2
open PySem PySem.Spec PyProof.Rows
section
variable {X : Cx} {K : PySem.W.Frag} {w : World}
theorem kEq (hu : X.A.units < cLine) (hK : X.K = K := by rfl) : OpR X (compareOp .Eq) (fun x y H Q => rEq x y H Q ∨ rEqL K true x y H Q) := by subst hK; exact uEq hu
theorem kNe (hu : X.A.units < cLine) (hK : X.K = K := by rfl) : OpR X (compareOp .NotEq) (fun x y H Q => rNe x y H Q ∨ rEqL K false x y H Q) := by subst hK; exact uNe hu
theorem kIn (hK : X.K = K := by rfl) (hw : X.w = w := by rfl) : OpR X (compareOp .In) (fun x y H Q => (∃ i j, x = .str i ∧ y = .str j ∧ Q (.bl (!(Builtin.Str.occurrences j i 0 j.length 1).isEmpty)) H) ∨ rIn K false x y H Q ∨ (∃ k a kvs, x = .str k ∧ y = .ref a ∧ TopD w K a kvs ∧ Q (.bl (kvs.lookup k).isSome) H)) := by
  subst hK; subst hw; exact uIn
theorem kIx (hK : X.K = K := by rfl) (hw : X.w = w := by rfl) : IxR X (fun x y H Q => rIxL K x y H Q ∨ rIxT K x y H Q ∨ rIxS x y H Q ∨ rIxTop w K x y H Q) := by subst hK; subst hw; exact ix_any
theorem kSl (hK : X.K = K := by rfl) : SlR X (fun x lo hi H Q => rSlL K x lo hi H Q ∨ rSlT K x lo hi H Q) := by subst hK; exact sl_any
theorem k_len (hK : X.K = K := by rfl) : CallR X (.builtin "len") (fun xs H Q => ∃ x n, xs = [x] ∧ LenV K x H n ∧ Q (.int n) H) := by subst hK; exact call_len
theorem k_list (hK : X.K = K := by rfl) : CallR X (.type "list") (fun xs H Q => ∃ p ys, xs = [.ref p] ∧ (SqL K H p ys ∨ SqT K H p ys) ∧ ∀ l, H l = none → Q (.ref l) (upd H l (.lst ys))) := by subst hK; exact call_list_of
theorem k_tuple (hK : X.K = K := by rfl) : CallR X (.type "tuple") (fun xs H Q => ∃ p ys, xs = [.ref p] ∧ ((SqL K H p ys ∧ ∀ l, H l = none → Q (.ref l) (upd H l (.tup ys))) ∨ SqT K H p ys ∧ Q (.ref p) H)) := by subst hK; exact call_tuple_of
theorem k_join (hK : X.K = K := by rfl) : MtR X "str.join" (rJoin K) := by subst hK; exact mt_join
variable {o e st l c : Expr} {es : List Expr} {to te ts tl : TE} {t : TA} {name : Str} {apos cpos pos p2 : Pos} {T id : String} {r : V → List V → Hp → VK → Prop} {tg : Expr}
theorem k_bm (pa : PlainAttrs T) (slot : Slot T name id) (hty : typeOf (.builtin id) = pure (.type "method_descriptor")) (hm : MtR X id r) (ho : PE X o to) (ha : PA X (e :: es) t) (hK : X.K = K := by rfl)
    (hbase : attributeBase o name X.env (eval o X.env) = eval o X.env := by rfl)
    (hfew : ((backTo cpos (starEach (e :: es) X.env)).all (fun x => !x.1) && (backToKw cpos (keywordEach [] X.env)).all (fun x => x.1.isSome)
      && decide ((e :: es).length + ([] : List Keyword).length + (if ([] : List Keyword).isEmpty then 0 else 1) < 30)) = true := by rfl)
    (hline : (apos.endLine == cpos.line) = true := by rfl) (hs : starEach (e :: es) X.env = (false, eval e X.env) :: starEach es X.env := by rfl) (hplain : (backTo cpos (starEach es X.env)).any (·.1) = false := by rfl) :
    PE X (.Call (.Attribute o name apos) (e :: es) [] cpos) (tBM K T r to t) := by
  subst hK; exact pe_bm pa slot hty hm ho ha hbase hfew hline hs hplain
theorem k_ilist (hl : PE X l tl) (hK : X.K = K := by rfl) : PI X tg l (iList K tl) := by subst hK; exact pi_list hl
theorem k_itup (hl : PE X l tl) (hK : X.K = K := by rfl) : PI X tg l (iTup K tl) := by subst hK; exact pi_tup hl
def tTru (K : PySem.W.Frag) (ta : TE) : TT := fun σ H Q => ta σ H fun x H' => ∃ k, TruV K x H' k ∧ Q k H'
theorem k_truth (ha : PE X e te) (he : ∀ whole, isTrue e X.env whole = (do let v ← whole; standAt e.pos; holding [v] (truthy v))) (hK : X.K = K := by rfl) : PT X e (tTru K te) := by subst hK; exact pt_truth ha he
end
theorem noTest {σ : St} {H : Hp} {A B : Hp → Prop} (h : A H) : tNoTest σ H (fun b H2 => if b = true then A H2 else B H2) := by
  show if true = true then A H else B H
  rw [if_pos rfl]; exact h
def Dec (t : TT) (σ : St) (H : Hp) (b : Bool) : Prop := ∀ Q : Bool → Hp → Prop, Q b H → t σ H Q
theorem Dec.or {t u : TT} {σ : St} {H : Hp} {a b : Bool} (h : Dec t σ H a) (h' : Dec u σ H b) : Dec (tOr t u) σ H (a || b) := fun Q q => h _ (by
  cases a with
  | true => rw [if_pos rfl]; exact q
  | false => rw [if_neg Bool.false_ne_true]; exact h' Q q)
def strsOf : List Expr → Option (List Str)
  | [] => some []
  | .Constant (.str x) _ _ :: r => (strsOf r).map (x :: ·)
  | _ => none
def tStrs (zs : List Str) : TA := fun _ H Q => Q (zs.map V.str) H
theorem pa_strs {X : Cx} : ∀ {es : List Expr} {zs : List Str}, strsOf es = some zs → PA X es (tStrs zs)
  | [], zs, h => by
    have e : zs = [] := by cases h; rfl
    subst e
    exact pa_nil
  | e :: r, zs, h => by
    have hx : ∃ x a b, e = .Constant (.str x) a b ∧ ∃ ys, strsOf r = some ys ∧ zs = x :: ys := by
      unfold strsOf at h
      split at h
      · rename_i h1; cases h1
      · rename_i x a b r' h1
        injection h1 with h1 h2
        subst h1; subst h2
        cases q : strsOf r with
        | none => rw [q] at h; cases h
        | some ys => rw [q] at h; cases h; exact ⟨x, a, b, rfl, ys, rfl, rfl⟩
      · cases h
    obtain ⟨x, a, b, rfl, ys, hr, rfl⟩ := hx
    exact pa_cons pe_str (pa_strs hr)
end L2
namespace L2
open PySem PySem.Spec PyProof.Rows
def XAt (h g : Heap) (H : Hp) (a : Addr) (C : Value) : Prop :=
  ∃ oe vs T oT ts a0, h.get? a = some oe ∧ oe.cls = C ∧ oe.data = .fields vs ∧ vs[0]? = some a0 ∧ vs[1]? = some (.ref T) ∧ T ≠ a ∧ h.get? T = some oT ∧ oT.data = .fields ts ∧ ts[3]? = some .none ∧
    H a = none ∧ H T = none ∧ g.get? a = none ∧ g.get? T = none
def CXr (P : Program) (w : World) : CXT := fun outer H s E e s' => ∃ (a : Addr) (C : Value) (H' : Hp), e = .ref a ∧ s'.os = s.os ∧ AllBare s'.gens ∧ Un (frs outer) [] H H' s.heap s'.heap ∧ HOk P w H' s'.heap ∧ XAt s'.heap s.heap H' a C ∧ E C none H'
section
variable {M : Model} {A : Around} {E : Value → Shared → Prop} {s : Shared}
theorem leave_fly {base : Heap} {env : Env} {outer : List Env} {L a : Addr} {C : Value} {g : Heap} {H : Hp} {Q : Unit → Shared → Prop} (hfr : A.frames = some (env :: outer)) (hf : env.frame = some L) (hl : s.heap.FunFrames base (env :: outer))
    (x : XAt s.heap g H a C) (hH : ∀ b, H b ≠ none → ∃ o, s.heap.get? b = some o) (hg : ∀ b o, g.get? b = some o → ∃ o', s.heap.get? b = some o')
    (hQ : ∀ h' T, (∀ b o, s.heap.get? b = some o → b ∉ frs (env :: outer) → b ≠ a → b ≠ T → h'.get? b = some o) → (∀ b o, s.heap.get? b = some o → b ∈ frs (env :: outer) → ∃ sl, h'.get? b = some { o with slots := sl }) →
      H T = none → g.get? T = none → XAt h' g H a C → Q () { s with heap := h' }) : wpAny M A (leaving env (.ref a)) Q E s := by
  obtain ⟨oe, vs, T, oT, ts, a0, x1, x2, x3, x4, x5, x6, x7, x8, x9, x10, x11, x12, x13⟩ := x
  have memf : ∀ b, b ∈ frs (env :: outer) → b ∈ frs (env :: outer) ++ [a, T] := fun b hb => List.mem_append_left _ hb
  have hin : ∀ e ∈ (env :: outer), ∀ b, e.frame = some b → b ∈ frs (env :: outer) ++ [a, T] := fun e he b hb => memf b (List.mem_filterMap.mpr ⟨e, he, hb⟩)
  have nof : ∀ b o vs', s.heap.get? b = some o → o.data = .fields vs' → b ∉ frs (env :: outer) := fun b o vs' hb hd hm => by
    obtain ⟨_, o', ho', hnf⟩ := hl.mem hm
    rw [hb] at ho'; cases ho'
    exact hnf vs' hd
  refine wpAny_leaves_onW (base := PySem.W.hideAll s.heap (frs (env :: outer) ++ [a, T])) (cls := C) (a0 := a0) hfr hf ⟨fun b o q => PySem.W.of_hideAll _ q, PySem.W.hideAll_none _ (by simp), PySem.W.funFrames_hide hl hin, oe, vs, T, oT, ts, x1, ⟨x2, x4⟩, x3, x5, PySem.W.hideAll_none _ (by simp), x6, x7, x8, x9⟩ fun h' fl us => ?_
  obtain ⟨st, _, _, oe', vs', T', oT', ts', y1, ⟨y2, y4⟩, y3, y5, yB, y6, y7, y8, y9⟩ := fl
  have keep : ∀ b o, s.heap.get? b = some o → b ∉ frs (env :: outer) → b ≠ a → b ≠ T → h'.get? b = some o := fun b o hb n1 n2 n3 => st b o (PySem.W.hideAll_get _ hb (by
    intro hm
    rcases List.mem_append.mp hm with hm | hm
    · exact n1 hm
    · rcases List.mem_cons.mp hm with hm | hm
      · exact n2 hm
      · exact n3 (by simpa using hm)))
  have slot : ∀ b o, s.heap.get? b = some o → b ∈ frs (env :: outer) → ∃ sl, h'.get? b = some { o with slots := sl } := fun b o hb hm => by
    obtain ⟨_, o', ho', hnf⟩ := hl.mem hm
    rw [hb] at ho'; cases ho'
    exact us b o hb hnf
  have hT' : T' = T ∨ s.heap.get? T' = none := by
    cases q : s.heap.get? T' with
    | none => exact .inr rfl
    | some o =>
      refine .inl ?_
      by_cases hm : T' ∈ frs (env :: outer) ++ [a, T]
      · rcases List.mem_append.mp hm with hm | hm
        · obtain ⟨_, o', ho', hnf⟩ := hl.mem hm
          obtain ⟨sl, hs⟩ := us T' o' ho' hnf
          rw [hs] at y7; cases y7
          exact absurd y8 (hnf ts')
        · rcases List.mem_cons.mp hm with hm | hm
          · exact absurd hm y6
          · simpa using hm
      · rw [PySem.W.hideAll_get _ q hm] at yB; cases yB
  have hHT' : H T' = none := by
    rcases hT' with e | e
    · rw [e]; exact x11
    · cases q : H T' with
      | none => rfl
      | some u => obtain ⟨o, ho⟩ := hH T' (by rw [q]; simp); rw [e] at ho; cases ho
  have hgT' : g.get? T' = none := by
    rcases hT' with e | e
    · rw [e]; exact x13
    · cases q : g.get? T' with
      | none => rfl
      | some u => obtain ⟨o, ho⟩ := hg T' u q; rw [e] at ho; cases ho
  exact hQ h' T keep slot x11 x13 ⟨oe', vs', T', oT', ts', a0, y1, y2, y3, y4, y5, y6, y7, y8, y9, x10, hHT', x12, hgT'⟩
end
theorem ObjOk.get {P : Program} {w : World} {H : Hp} {h : Heap} {a : Addr} {o : HO} (x : ObjOk P w H h a o) : ∃ ob, h.get? a = some ob := by
  cases o with
  | lst xs => obtain ⟨_, _, _, _, e⟩ := x; exact ⟨_, e⟩
  | tup xs => obtain ⟨_, _, _, p⟩ := x; obtain ⟨ob, e, _⟩ := p; exact ⟨ob, e⟩
  | dK kvs => obtain ⟨_, _, _, _, o, _, _, e, _⟩ := x; exact ⟨o, e⟩
  | dT kvs => obtain ⟨_, _, _, _, o, _, _, e, _⟩ := x; exact ⟨o, e⟩
  | set S n => obtain ⟨o, _, _, _, e, _⟩ := x; exact ⟨o, e⟩
  | ins C dx fs => obtain ⟨_, _, _, e, _⟩ := x; exact ⟨_, e⟩
  | own y => obtain ⟨o, e⟩ := x; exact ⟨o, e⟩
  | xd fs => obtain ⟨_, ⟨o, _, _, e, _⟩, _⟩ := x; exact ⟨o, e⟩
  | rng lo hi => obtain ⟨_, _, _, e⟩ := x; exact ⟨_, e⟩
  | frz ob u => obtain ⟨e, _⟩ := x; exact ⟨_, e⟩
  | tbl ps => exact ⟨_, (show h.get? a = some _ from x)⟩
  | met f y => exact ⟨_, (show h.get? a = some _ from x)⟩
  | ext φ => obtain ⟨_, ⟨o, e⟩, _⟩ := x; exact ⟨o, e⟩
theorem HOk.there {P : Program} {w : World} {H : Hp} {h : Heap} (x : HOk P w H h) (b : Addr) (n : H b ≠ none) : ∃ o, h.get? b = some o := by
  cases q : H b with
  | none => exact absurd q n
  | some u => exact (x b u q).get
theorem HOk.keptT {P : Program} {w : World} {H : Hp} {h h' : Heap} (x : HOk P w H h) (k : ∀ b o, H b ≠ none → h.get? b = some o → h'.get? b = some o) : HOk P w H h' := fun b u e =>
  (x b u e).stay (fun c v hc q => k c v (by
    rcases hc with rfl | hc
    · rw [e]; simp
    · rw [hc]; simp) q) (fun _ q => q) fun _ _ q => q
section
variable {X : Cx} {pins : List (Addr × Obj)} {σ : St} {H1 H2 : Hp} {s1 : Shared} {h1 h2 : Heap}
theorem Inv.fsSub (I : Inv X pins σ H1 s1) : ∀ b ∈ X.fs, b ∈ frs X.stack := fun b hb => by
  rcases I.ok.stk with e | ⟨e, hf⟩
  · rw [e]; exact hb
  · rw [e]
    unfold frs
    rw [List.filterMap_cons, hf]
    exact List.mem_cons_of_mem _ hb
theorem un_out (I : Inv X pins σ H1 s1) (hex : X.ex = []) (u : Un (frs X.stack) [] H1 H2 s1.heap h1)
    (keep2 : ∀ b o, h1.get? b = some o → b ∉ frs X.stack → s1.heap.get? b ≠ none → h2.get? b = some o) (slot2 : ∀ b o, h1.get? b = some o → b ∈ frs X.stack → ∃ sl, h2.get? b = some { o with slots := sl }) :
    Un X.fs [] X.H₀ H2 X.s₀.heap h2 := by
  have nex : ∀ b : Addr, b ∉ X.ex := fun b => by rw [hex]; simp
  have nst : ∀ b o, X.s₀.heap.get? b = some o → b ∉ X.fs → b ∉ frs X.stack := fun b o e n hm => by
    rcases List.mem_cons.mp (I.stkSub b hm) with z | z
    · exact absurd (Nat.lt_of_lt_of_le (Heap.lt_size e) I.ok.above) (by rw [z]; exact Nat.lt_irrefl _)
    · exact n z
  refine ⟨fun b o e n hb _ => ?_, fun b o e n hb _ => ?_, fun b o e n _ => ?_, fun b o e _ => ?_, fun b xs q => u.tups b xs (I.base.tups b xs q), fun b o v q => u.frzs b o v (I.base.frzs b o v q), fun b ps q => ?_⟩
  · have e1 := I.base.keep b o e n hb (nex b)
    have n1 := I.base.free b o e n (nex b)
    have ns := nst b o e hb
    exact keep2 b o (u.keep b o e1 n1 ns (by simp)) ns (by rw [e1]; simp)
  · obtain ⟨sl, e1⟩ := I.base.slot b o e n hb (nex b)
    have n1 := I.base.free b o e n (nex b)
    have hm := I.fsSub b hb
    obtain ⟨sl2, e2⟩ := u.slot b _ e1 n1 hm (by simp)
    obtain ⟨sl3, e3⟩ := slot2 b _ e2 hm
    exact ⟨sl3, e3⟩
  · obtain ⟨o1, e1⟩ := I.base.there b o e (nex b)
    exact u.free b o1 e1 (I.base.free b o e n (nex b)) (by simp)
  · obtain ⟨o1, e1⟩ := I.base.there b o e (nex b)
    obtain ⟨o2, e2⟩ := u.there b o1 e1 (by simp)
    by_cases hm : b ∈ frs X.stack
    · obtain ⟨sl, e3⟩ := slot2 b o2 e2 hm
      exact ⟨_, e3⟩
    · exact ⟨o2, keep2 b o2 e2 hm (by rw [e1]; simp)⟩
  · obtain ⟨m1, e1⟩ := I.base.tbls b ps q
    obtain ⟨m2, e2⟩ := u.tbls b _ e1
    exact ⟨m1 ++ m2, by rw [e2, Array.append_assoc]⟩
theorem funs_un {base : Heap} {l : List Env} {fs : List Addr} (hl : s1.heap.FunFrames base l) (hH : ∀ b ∈ frs l, H1 b = none) (hs : ∀ b ∈ frs l, b ∈ fs) (u : Un fs [] H1 H2 s1.heap h1) : h1.FunFrames base l := by
  induction l with
  | nil => trivial
  | cons env r ih =>
    obtain ⟨hk, ⟨L, o, hf, hn, ho, hd⟩, hr⟩ := hl
    have hL : L ∈ frs (env :: r) := by unfold frs; rw [List.filterMap_cons, hf]; exact List.mem_cons_self
    have sub : ∀ b, b ∈ frs r → b ∈ frs (env :: r) := fun b hb => by unfold frs; rw [List.filterMap_cons, hf]; exact List.mem_cons_of_mem _ hb
    obtain ⟨sl, e⟩ := u.slot L o ho (hH L hL) (hs L hL) (by simp)
    exact ⟨hk, ⟨L, _, hf, hn, e, hd⟩, ih hr (fun b hb => hH b (sub b hb)) fun b hb => hs b (sub b hb)⟩
end
section
variable {P : Program} {w : World} {K : PySem.W.Frag} {mg : Str → Option Value} {base : Heap} {N : List Str} {qual : Str} {scope : Scope} {f : Addr} {cd : Value} {A : Around} {outer : List Env} {s : Shared} {H : Hp} {E : XK}
  {pins : List (Addr × Obj)} {σ : St} {H1 : Hp} {s1 : Shared}
theorem raise_out {h' : Heap} {a : Addr} {C : Value} {vs : List Value} (I : Inv (cxOf (CXr P w) P w K mg base N qual scope f cd A outer s H E) pins σ H1 s1) (hx : Heap.MadeExcOf s1.heap h' a C vs) (hE : E C none H1) :
    (cxOf (CXr P w) P w K mg base N qual scope f cd A outer s H E).xe (.ref a) { s1 with heap := h' } := by
  have hst := I.stack
  have hin : ∀ e ∈ (cxOf (CXr P w) P w K mg base N qual scope f cd A outer s H E).stack, ∀ b, e.frame = some b → b ∈ frs (cxOf (CXr P w) P w K mg base N qual scope f cd A outer s H E).stack := fun e he b hb => List.mem_filterMap.mpr ⟨e, he, hb⟩
  refine wpAny_leaves_madeW (base := PySem.W.hideAll s1.heap (frs (cxOf (CXr P w) P w K mg base N qual scope f cd A outer s H E).stack)) (h := s1.heap) I.ok.frames rfl (fun b o q => PySem.W.of_hideAll _ q) (PySem.W.funFrames_hide hst hin) hx fun h2 t fl _ _ us => ?_
  obtain ⟨st, _, _, oe, vs', T, oT, ts, y1, ⟨y2, y4⟩, y3, y5, yB, y6, y7, y8, y9⟩ := fl
  have keep : ∀ b o, s1.heap.get? b = some o → b ∉ frs (cxOf (CXr P w) P w K mg base N qual scope f cd A outer s H E).stack → h2.get? b = some o := fun b o hb n => st b o (PySem.W.hideAll_get _ hb n)
  have slot : ∀ b o, s1.heap.get? b = some o → b ∈ frs (cxOf (CXr P w) P w K mg base N qual scope f cd A outer s H E).stack → ∃ sl, h2.get? b = some { o with slots := sl } := fun b o hb hm => by
    obtain ⟨_, o', ho', hnf⟩ := hst.mem hm
    rw [hb] at ho'; cases ho'
    exact us b o (hx.keeps b o hb) hnf
  have hT : s1.heap.get? T = none := by
    cases q : s1.heap.get? T with
    | none => rfl
    | some o =>
      by_cases hm : T ∈ frs (cxOf (CXr P w) P w K mg base N qual scope f cd A outer s H E).stack
      · obtain ⟨_, o', ho', hnf⟩ := hst.mem hm
        obtain ⟨sl, hs⟩ := slot T o' ho' hm
        rw [hs] at y7; cases y7
        exact absurd y8 (hnf ts)
      · rw [PySem.W.hideAll_get _ q hm] at yB; cases yB
  have fresh : ∀ b, s1.heap.get? b = none → H1 b = none := fun b hb => by
    cases q : H1 b with
    | none => rfl
    | some u => obtain ⟨o, ho⟩ := I.hok.there b (by rw [q]; simp); rw [hb] at ho; cases ho
  have older : ∀ b, s1.heap.get? b = none → s.heap.get? b = none := fun b hb => by
    cases q : s.heap.get? b with
    | none => rfl
    | some u => obtain ⟨o, ho⟩ := I.base.there b u q (by intro z; cases z); rw [hb] at ho; cases ho
  have trk : ∀ b, H1 b ≠ none → b ∉ frs (cxOf (CXr P w) P w K mg base N qual scope f cd A outer s H E).stack := fun b hb hm => hb (I.stkFree b hm)
  refine ⟨a, C, H1, rfl, I.os, I.bare, ?_, I.hok.keptT fun b o hb e => keep b o e (trk b hb), ⟨oe, vs', T, oT, ts, _, y1, y2, y3, y4, y5, y6, y7, y8, y9, fresh a hx.new, fresh T hT, older a hx.new, older T hT⟩, hE⟩
  exact un_out (h1 := s1.heap) I rfl Un.refl (fun b o e n _ => keep b o e n) slot
theorem pass_out : Passes (CXr P w) (cxOf (CXr P w) P w K mg base N qual scope f cd A outer s H E) E := by
  intro pins σ H1 s1 e s2 I hc
  obtain ⟨a, C, H2, rfl, os2, bare2, u, hok, x, hE⟩ := hc
  have hst2 : s2.heap.FunFrames base (cxOf (CXr P w) P w K mg base N qual scope f cd A outer s H E).stack := funs_un I.stack I.stkFree (fun _ hb => hb) u
  have older1 : ∀ b o, s.heap.get? b = some o → ∃ o', s1.heap.get? b = some o' := fun b o e => I.base.there b o e (by intro z; cases z)
  have weaken : ∀ {h' : Heap}, XAt h' s1.heap H2 a C → XAt h' s.heap H2 a C := fun {h'} x => by
    obtain ⟨oe, vs, T, oT, ts, a0, x1, x2, x3, x4, x5, x6, x7, x8, x9, x10, x11, x12, x13⟩ := x
    refine ⟨oe, vs, T, oT, ts, a0, x1, x2, x3, x4, x5, x6, x7, x8, x9, x10, x11, ?_, ?_⟩
    · cases q : s.heap.get? a with
      | none => rfl
      | some o => obtain ⟨o', e'⟩ := older1 a o q; rw [x12] at e'; cases e'
    · cases q : s.heap.get? T with
      | none => rfl
      | some o => obtain ⟨o', e'⟩ := older1 T o q; rw [x13] at e'; cases e'
  have hna : s1.heap.get? a = none := by obtain ⟨_, _, _, _, _, _, _, _, _, _, _, _, _, _, _, _, _, z, _⟩ := x; exact z
  have hHa : H2 a = none := by obtain ⟨_, _, _, _, _, _, _, _, _, _, _, _, _, _, _, z, _⟩ := x; exact z
  refine leave_fly (E := _) I.ok.frames rfl hst2 x (fun b hb => hok.there b hb) (fun b o e => u.there b o e (by simp)) fun h' T keep slot hHT hgT xa => ?_
  have frFree : ∀ b ∈ frs (cxOf (CXr P w) P w K mg base N qual scope f cd A outer s H E).stack, H2 b = none := fun b hm => by
    obtain ⟨_, o, ho, _⟩ := I.stack.mem hm
    exact u.free b o ho (I.stkFree b hm) (by simp)
  refine ⟨a, C, H2, rfl, os2.trans I.os, bare2, ?_, hok.keptT fun b o hb e => keep b o e (fun hm => hb (frFree b hm)) (fun z => hb (by rw [z]; exact hHa)) (fun z => hb (by rw [z]; exact hHT)), weaken xa, hE⟩
  exact un_out I rfl u (fun b o e n hs => keep b o e n (fun z => hs (by rw [z]; exact hna)) fun z => hs (by rw [z]; exact hgT)) slot
theorem Fun.okX {x qual : Str} {st : Stmt} {f : Addr} {fd : FuncData} {N ps : List Str} {k : Nat} {sp : Sp} (F : Fun K x qual st f fd) (S : FnScope N ps (defScope st)) (len : ∀ vs H Q E, sp vs H Q E → vs.length = ps.length)
    (hbody : ∀ (cdv : Value) (A : Around) (outer : List Env) (s : Shared) (H : Hp) (vs : List V) (Q : VK) (E : XK), Room k (A.deeper (envOfC qual (defScope st) s.heap.objs.size f cdv)) → sp vs H Q E →
      ∃ t, PSs (cxOf (CXr P w) P w K mg base N qual (defScope st) f cdv A outer s H E) (defBody st) t ∧ t { nx := fun _ H' => Q .non H', rt := Q } (start N vs) H) : FnOk P w K mg base (CXr P w) (k + 1) f fd ps sp := by
  obtain ⟨oc, od, kV, doc, pm, an, cdv, ct, osl, rfl, lk, hcd⟩ := F.ex
  exact fn_of lk hcd S len fun A outer s H vs Q E hr hsp => hbody cdv A outer s H vs Q E hr hsp
end
end L2
namespace L2
open PySem PySem.Spec PyProof.Rows
def bmOf (K : PySem.W.Frag) (C : Addr) : List Value := match K.lookup C with
  | some o => (match o.data with
    | .cls d => d.mro.tail
    | _ => [])
  | none => []
def OwnAt (h : Heap) (C : Addr) (bm bmB : List Value) (newId : String) : Prop :=
  ∃ N nm qn bs hdct sn sub ab col dd k0 k1 k2 k3 k5 mN, h.get? C = some (excClassObj nm qn C N bs bm hdct sn sub ab col dd k0 k1 k2 k3 k5 newId) ∧ h.Ns N mN ∧ mN "__init__" = none ∧ OwnTail h bmB bm
theorem own_obj {K : PySem.W.Frag} {h : Heap} {C : Addr} {bmB : List Value} {newId : String} (X : K.In h) (q : PySem.W.excIn K C bmB newId = true) : OwnAt h C (bmOf K C) bmB newId := by
  unfold PySem.W.excIn at q
  cases ho : K.lookup C with
  | none => rw [ho] at q; cases q
  | some o =>
    rw [ho] at q
    have hb : bmOf K C = (match o.data with
      | .cls d => d.mro.tail
      | _ => []) := by unfold bmOf; rw [ho]
    rw [hb]
    have hX := X C o ho
    split at q
    · next d cd sl he =>
      cases he
      split at q
      · next c1 bm a0 a1 a2 a3 nn a5 hm hs =>
        rw [Bool.and_eq_true, Bool.and_eq_true, Bool.and_eq_true, Bool.and_eq_true, Bool.and_eq_true] at q
        obtain ⟨⟨⟨⟨⟨z1, z2⟩, z3⟩, z4⟩, z5⟩, z6⟩ := q
        have z1 := beq_iff_eq.mp z1
        have z2 := beq_iff_eq.mp z2
        have z6 := beq_iff_eq.mp z6
        subst z1 z2
        have hsl : sl = #[a0, a1, a2, a3, some (.builtin nn), a5] := Array.toList_inj.mp hs
        obtain ⟨nm, bs, mro, ns, qn, hd, sn, sub, ab, col, del⟩ := cd
        have hm : mro = _ := hm
        have y3 : del = false := by simpa using z3
        subst hm hsl
        subst y3
        exact ⟨ns, nm, qn, bs, hd, sn, sub, ab, col, d, a0, a1, a2, a3, a5, _, hX, .of_isNs (PySem.W.isNs_of_in X z5), PySem.W.nsMap_none_of_in X z5 z6, PySem.W.tail_of_in X z4⟩
      · cases q
    · cases q
section
variable {P : Program} {w : World} {K : PySem.W.Frag} {mg : Str → Option Value} {base : Heap} {N : List Str} {qual : Str} {scope : Scope} {f : Addr} {cd : Value} {A : Around} {outer : List Env} {s : Shared} {H : Hp} {E : XK}
def tRaise (C : Addr) (E : XK) (t : TA) : TS := fun _ σ H => t σ H fun vs H1 => vs.length ≤ sizeLine ∧ E (.ref C) none H1
theorem ps_raise {C : Addr} {bmB : List Value} {B newId initId : String} {x : Str} {p pos rpos : Pos} {e : Expr} {es : List Expr} {t : TA} (F : ExcBaseFacts B newId initId bmB) (hB : bmB.contains (.type "BaseException") = true)
    (hq : PySem.W.excIn K C bmB newId = true) (hg : Gl (cxOf (CXr P w) P w K mg base N qual scope f cd A outer s H E) x) (hm : mg x = some (.ref C)) (ha : PA (cxOf (CXr P w) P w K mg base N qual scope f cd A outer s H E) (e :: es) t)
    (hdb : (x == ("__debug__" : Str)) = false := by decide)
    (he : starEach (e :: es) (cxOf (CXr P w) P w K mg base N qual scope f cd A outer s H E).env = (false, eval e (cxOf (CXr P w) P w K mg base N qual scope f cd A outer s H E).env) :: starEach es (cxOf (CXr P w) P w K mg base N qual scope f cd A outer s H E).env := by rfl)
    (hpl : (backTo pos (starEach (e :: es) (cxOf (CXr P w) P w K mg base N qual scope f cd A outer s H E).env)).any (·.1) = false := by rfl) :
    PS (cxOf (CXr P w) P w K mg base N qual scope f cd A outer s H E) (.Raise (some (.Call (.Name x p) (e :: es) [] pos)) none rpos) (tRaise C E t) := by
  intro pins s1 σ H1 D I h
  obtain ⟨Nn, nm, qn, bs, hdct, sn, sub, ab, col, dd, k0, k1, k2, k3, k5, mN, hC, hN, hni, T⟩ := own_obj I.ok.mod.kin hq
  refine wpAny_Raise_call_subT (C := C) (nm := nm) (q := qn) (N := Nn) (bs := bs) (bm := bmOf K C) (hdct := hdct) (sn := sn) (sub := sub) (ab := ab) (col := col) (dd := dd) (k0 := k0) (k1 := k1) (k2 := k2) (k3 := k3) (k5 := k5) F (T.hasType hB) (I.ok.hd rfl) hpl hni ?_
  refine ld_glob I hg hm ⟨rfl, ?_⟩ hdb
  have h2 := ha pos pins s1 σ H1 _ I h
  rw [he] at h2 ⊢
  refine Calls.evalArgs_plain (thn h2 fun us s2 ⟨vs, H2, I2, r, q1, q2⟩ => ?_)
  have hk : ∀ b o, base.get? b = some o → s2.heap.get? b = some o := fun b o e => (I2.bs b o e).1
  refine ⟨rfl, by rw [← r.length]; exact q1, hk _ _ hC, hN.keeps hk, T.keeps hk, fun h' a mx => raise_out I2 mx q2⟩
end
end L2
namespace L2
open PySem PySem.Spec PyProof.Rows
section
variable {h g : Heap} {H : Hp} {a : Addr} {C : Value}
theorem fly_step {base : Heap} {l : List Env} (hl : h.FunFrames base l) (x : XAt h g H a C) (hH : ∀ b, H b ≠ none → ∃ o, h.get? b = some o) (hg : ∀ b o, g.get? b = some o → ∃ o', h.get? b = some o') :
    ∃ B a0, Heap.FlyingW B l a C a0 h ∧ ∀ h', Heap.FlyingW B l a C a0 h' → h.UpToSlots h' →
      (∀ b o, h.get? b = some o → b ∉ frs l → (H b ≠ none ∨ g.get? b ≠ none) → h'.get? b = some o) ∧ (∀ b o, h.get? b = some o → b ∈ frs l → ∃ sl, h'.get? b = some { o with slots := sl }) ∧ ∃ ob, h'.get? a = some ob ∧ ob.cls = C := by
  obtain ⟨oe, vs, T, oT, ts, a0, x1, x2, x3, x4, x5, x6, x7, x8, x9, x10, x11, x12, x13⟩ := x
  have hin : ∀ e ∈ l, ∀ b, e.frame = some b → b ∈ frs l ++ [a, T] := fun e he b hb => List.mem_append_left _ (List.mem_filterMap.mpr ⟨e, he, hb⟩)
  refine ⟨PySem.W.hideAll h (frs l ++ [a, T]), a0, ⟨fun b o q => PySem.W.of_hideAll _ q, PySem.W.hideAll_none _ (by simp), PySem.W.funFrames_hide hl hin, oe, vs, T, oT, ts, x1, ⟨x2, x4⟩, x3, x5, PySem.W.hideAll_none _ (by simp), x6, x7, x8, x9⟩, fun h' fl us => ⟨fun b o hb n c => ?_, fun b o hb hm => ?_, fl.there⟩⟩
  · refine fl.1 b o (PySem.W.hideAll_get _ hb fun hm => ?_)
    rcases List.mem_append.mp hm with hm | hm
    · exact n hm
    · have hz : b = a ∨ b = T := by simpa using hm
      rcases hz with rfl | rfl
      · rcases c with c | c
        · exact c x10
        · exact c x12
      · rcases c with c | c
        · exact c x11
        · exact c x13
  · obtain ⟨_, o', ho', hnf⟩ := hl.mem hm
    rw [hb] at ho'; cases ho'
    exact us b o hb hnf
end
def ExcO (a : Addr) (C : Value) : HO := .ext fun h => ∃ o, h.get? a = some o ∧ o.cls = C
theorem excO_ok {P : Program} {w : World} {H : Hp} {h : Heap} {a : Addr} {C : Value} {o : Obj} (e : h.get? a = some o) (c : o.cls = C) : ObjOk P w H h a (ExcO a C) :=
  ⟨⟨o, e, c⟩, ⟨o, e⟩, fun _ _ ⟨o, e, c⟩ k => ⟨o, k o e, c⟩⟩
theorem HOk.adds {P : Program} {w : World} {H : Hp} {h : Heap} {a : Addr} {o : HO} (x : HOk P w H h) (hn : H a = none) (new : ObjOk P w (upd H a o) h a o) : HOk P w (upd H a o) h := fun b u e => by
  by_cases hb : b = a
  · subst hb; rw [upd_same] at e; cases e; exact new
  · rw [upd_ne hb] at e
    exact (x b u e).stay (fun _ _ _ q => q) (fun c q => by rw [upd_ne (ne_of_none q hn)]; exact q) fun c xs q => by rw [upd_ne (ne_of_none q hn)]; exact q
section
variable {fs : List Addr} {H1 H2 : Hp} {h0 h1 h2 : Heap}
theorem un_step (u : Un fs [] H1 H2 h0 h1) (keep : ∀ b o, h1.get? b = some o → b ∉ fs → (H2 b ≠ none ∨ h0.get? b ≠ none) → h2.get? b = some o) (slot : ∀ b o, h1.get? b = some o → b ∈ fs → ∃ sl, h2.get? b = some { o with slots := sl }) : Un fs [] H1 H2 h0 h2 := by
  refine ⟨fun b o e n hb _ => ?_, fun b o e n hb _ => ?_, u.free, fun b o e _ => ?_, u.tups, u.frzs, u.tbls⟩
  · exact keep b o (u.keep b o e n hb (by simp)) hb (.inr (by rw [e]; simp))
  · obtain ⟨sl, e1⟩ := u.slot b o e n hb (by simp)
    obtain ⟨sl2, e2⟩ := slot b _ e1 hb
    exact ⟨sl2, e2⟩
  · obtain ⟨o1, e1⟩ := u.there b o e (by simp)
    by_cases hb : b ∈ fs
    · obtain ⟨sl, e2⟩ := slot b o1 e1 hb
      exact ⟨_, e2⟩
    · exact ⟨o1, keep b o1 e1 hb (.inr (by rw [e]; simp))⟩
theorem un_add {a : Addr} {o : HO} (u : Un fs [] H1 H2 h0 h1) (ha : h0.get? a = none) (hn : H2 a = none) : Un fs [] H1 (upd H2 a o) h0 h1 := by
  refine ⟨u.keep, u.slot, fun b ob e n z => ?_, u.there, fun b xs q => ?_, fun b ob v q => ?_, fun b ps q => ?_⟩
  · rw [upd_ne (by rintro rfl; rw [ha] at e; cases e)]
    exact u.free b ob e n z
  · have := u.tups b xs q
    rw [upd_ne (ne_of_none this hn)]; exact this
  · have := u.frzs b ob v q
    rw [upd_ne (ne_of_none this hn)]; exact this
  · obtain ⟨m, e⟩ := u.tbls b ps q
    exact ⟨m, by rw [upd_ne (ne_of_none e hn)]; exact e⟩
end
section
variable {X : Cx} {pins : List (Addr × Obj)} {σ : St} {H1 H2 : Hp} {s1 s2 : Shared} {a : Addr} {C : Value}
theorem fly_inv (I : Inv X pins σ H1 s1) (os : s2.os = s1.os) (bare : AllBare s2.gens) (u : Un (frs X.stack) [] H1 H2 s1.heap s2.heap) (hok : HOk X.prog X.w H2 s2.heap) (x : XAt s2.heap s1.heap H2 a C) :
    ∃ B a0, Heap.FlyingW B X.stack a C a0 s2.heap ∧ ∀ h', Heap.FlyingW B X.stack a C a0 h' → s2.heap.UpToSlots h' → Inv X pins σ (upd H2 a (ExcO a C)) { s2 with heap := h' } := by
  have hst2 : s2.heap.FunFrames X.base X.stack := funs_un I.stack I.stkFree (fun _ hb => hb) u
  have hHa : H2 a = none := by obtain ⟨_, _, _, _, _, _, _, _, _, _, _, _, _, _, _, z, _⟩ := x; exact z
  have hna : s1.heap.get? a = none := by obtain ⟨_, _, _, _, _, _, _, _, _, _, _, _, _, _, _, _, _, z, _⟩ := x; exact z
  obtain ⟨B, a0, fl, st⟩ := fly_step hst2 x (fun b hb => hok.there b hb) (fun b o e => u.there b o e (by simp))
  refine ⟨B, a0, fl, fun h' fl' us => ?_⟩
  obtain ⟨keep, slot, ob, hob, hc⟩ := st h' fl' us
  have frFree : ∀ b ∈ frs X.stack, H2 b = none := fun b hm => by
    obtain ⟨_, o, ho, _⟩ := I.stack.mem hm
    exact u.free b o ho (I.stkFree b hm) (by simp)
  have hok' : HOk X.prog X.w H2 h' := hok.keptT fun b o hb e => keep b o e (fun hm => hb (frFree b hm)) (.inl hb)
  exact I.call' (s' := { s2 with heap := h' }) (ch := []) os (un_add (un_step u keep slot) hna hHa) (hok'.adds hHa (excO_ok hob hc)) bare (fun b z => absurd z (by simp))
end
end L2
namespace L2
open PySem PySem.Spec PyProof.Rows
section
variable {X : Cx} {pins : List (Addr × Obj)} {σ : St} {H : Hp} {s : Shared}
end
section
variable {M : Model} {A : Around} {E : Value → Shared → Prop} {h : Heap} {g : Array GenState} {d : Drawn} {t : Nat} {os : OsState}
theorem matches_own {a C D : Addr} {bm bmB bmD bmE : List Value} {n1 n2 : String} {oe : Obj} {Q : Bool → Shared → Prop} (hC : OwnAt h C bm bmB n1) (hD : OwnAt h D bmD bmE n2) (he : h.get? a = some oe) (hcls : oe.cls = .ref C)
    (hB : bmE.contains (.type "BaseException") = true) (hm : (Value.ref C :: bm).contains (.ref D) = true) (hq : Q true ⟨h, g, d, t, os⟩) : wpAny M A (excMatches (.ref a) (.ref D)) Q E ⟨h, g, d, t, os⟩ := by
  obtain ⟨_, _, _, _, _, _, _, _, _, _, _, _, _, _, _, _, oC, _⟩ := hC
  obtain ⟨_, _, _, _, _, _, _, _, _, _, _, _, _, _, _, _, oD, _, _, TD⟩ := hD
  have hcB : (Value.ref D :: bmD).contains (.type "BaseException") = true := by rw [List.contains_cons, TD.hasType hB, Bool.or_true]
  have f := tc_notTuple
  unfold excMatches
  repeat (first
    | (with_reducible refine wpAny_loadPart_at he ?_; rw [hcls])
    | with_reducible refine wpAny_loadPart_at oD ?_
    | (with_reducible refine wpAny_isSubtype_exc oD ?_; rw [hcB])
    | (with_reducible refine wpAny_isSubtype_exc oC ?_; rw [hm])
    | wp_step)
  exact hq
end
def Cx.marked (X : Cx) (e : Value) : Cx := { X with A := X.A.mark (some e), calm := false, xe := fun _ _ => False }
section
variable {X : Cx} {pins : List (Addr × Obj)} {σ : St} {H : Hp} {s : Shared} {e : Value}
theorem Inv.mark (I : Inv X pins σ H s) : Inv (X.marked e) pins σ H s :=
  ⟨⟨I.ok.mod, I.ok.kind, I.ok.glob, I.ok.blt, I.ok.above, I.ok.inj, I.ok.has, I.ok.cab, (fun z => nomatch z), I.ok.frames, I.ok.stk, I.ok.exf, I.ok.bs, I.ok.bsz, I.ok.noex, I.ok.exfs, I.ok.funs, I.ok.frf⟩, I.os, I.bare, I.base, I.loc, I.cell, I.free, I.freeC, I.pin, I.hok, I.len⟩
theorem Inv.unmark (ok : X.Ok) (I : Inv (X.marked e) pins σ H s) : Inv X pins σ H s := ⟨ok, I.os, I.bare, I.base, I.loc, I.cell, I.free, I.freeC, I.pin, I.hok, I.len⟩
end
end L2
namespace L2
open PySem PySem.Spec PyProof.Rows
def Cx.xed (X : Cx) (xe : Value → Shared → Prop) : Cx := { X with xe := xe }
section
variable {X : Cx} {pins : List (Addr × Obj)} {σ : St} {H : Hp} {s : Shared} {xe : Value → Shared → Prop}
theorem Inv.xed (I : Inv X pins σ H s) : Inv (X.xed xe) pins σ H s :=
  ⟨⟨I.ok.mod, I.ok.kind, I.ok.glob, I.ok.blt, I.ok.above, I.ok.inj, I.ok.has, I.ok.cab, I.ok.hd, I.ok.frames, I.ok.stk, I.ok.exf, I.ok.bs, I.ok.bsz, I.ok.noex, I.ok.exfs, I.ok.funs, I.ok.frf⟩, I.os, I.bare, I.base, I.loc, I.cell, I.free, I.freeC, I.pin, I.hok, I.len⟩
theorem Inv.unxed (I : Inv (X.xed xe) pins σ H s) : Inv X pins σ H s :=
  ⟨⟨I.ok.mod, I.ok.kind, I.ok.glob, I.ok.blt, I.ok.above, I.ok.inj, I.ok.has, I.ok.cab, I.ok.hd, I.ok.frames, I.ok.stk, I.ok.exf, I.ok.bs, I.ok.bsz, I.ok.noex, I.ok.exfs, I.ok.funs, I.ok.frf⟩, I.os, I.bare, I.base, I.loc, I.cell, I.free, I.freeC, I.pin, I.hok, I.len⟩
end
abbrev TEX := St → Hp → VK → XK → Prop
abbrev TSX := Ends → (St → XK) → St → Hp → Prop
def PEX (X : Cx) (e : Expr) (t : TEX) : Prop :=
  ∀ (pins : List (Addr × Obj)) (s : Shared) (σ : St) (H : Hp) (Q : VK) (E : XK) (XE : Value → Shared → Prop), Inv X pins σ H s → t σ H Q E →
    (∀ H1 s1 e s', Inv X pins σ H1 s1 → CXr X.prog X.w X.stack H1 s1 E e s' → XE e s') → wpAny (model X.prog X.w) X.A (eval e X.env) (EP X pins σ Q) XE s
def PSX (X : Cx) (st : List Stmt) (t : TSX) : Prop :=
  ∀ (pins : List (Addr × Obj)) (s : Shared) (σ : St) (H : Hp) (D : Ends) (E : St → XK) (XE : Value → Shared → Prop), Inv X pins σ H s → t D E σ H →
    (∀ σ1 H1 s1 e s', Inv X pins σ1 H1 s1 → CXr X.prog X.w X.stack H1 s1 (E σ1) e s' → XE e s') → wpAny (model X.prog X.w) X.A (execs st X.env) (SP X pins D) XE s
section
variable {X : Cx} {k : Nat} {f C : Addr} {fd : FuncData} {ps : List Str} {sp : Sp} {dvs : List V} {ds : List Value} {x m : Str} {p pos apos : Pos} {e o : Expr} {es : List Expr} {ta : TE} {t : TA}
theorem run_fnX {pins : List (Addr × Obj)} {σ : St} {H : Hp} {s : Shared} {Q : VK} {E : XK} {XE : Value → Shared → Prop} {us : List Value} {vs : List V} (F : FnOk X.prog X.w X.K X.mg X.base (CXr X.prog X.w) k f fd ps sp) (hr : Room k X.A) (hb : Binds X.K fd ps ds) (hd : Vals dvs ds)
    (I : Inv X pins σ H s) (r : Vals vs us) (h : sp (vs ++ dvs) H Q E) (hx : ∀ e s', CXr X.prog X.w X.stack H s E e s' → XE e s') : wpAny (model X.prog X.w) X.A (call (.ref f) us) (EP X pins σ Q) XE s := by
  have r2 : Vals (vs ++ dvs) (us ++ ds) := r.append hd
  have hl : (us ++ ds).length = ps.length := by rw [← r2.length]; exact F.len _ _ _ _ h
  refine wpAny_call (codeAny_mono (F.run X.A X.stack s H ⟨us, []⟩ (us ++ ds) (vs ++ dvs) Q E hr I.env0 (hb s us I.kIn hl) r2 h) fun r s' hq => ?_)
  cases r with
  | error e => exact hx e s' hq
  | ok fl =>
    cases fl with
    | ret u => exact I.after hq
    | next => exact False.elim hq
    | brk => exact False.elim hq
    | cont => exact False.elim hq
def xCall (sp : Sp) (dvs : List V) (t : TA) : TEX := fun σ H Q E => t σ H fun vs H1 => sp (vs ++ dvs) H1 Q E
theorem pex_call (F : FnOk X.prog X.w X.K X.mg X.base (CXr X.prog X.w) k f fd ps sp) (hr : Room k X.A) (hg : Gl X x) (hm : X.mg x = some (.ref f)) (hk : PySem.W.keepIn X.K (.ref f) = true) (hb : Binds X.K fd ps ds) (hd : Vals dvs ds)
    (ha : ∀ xe, PA (X.xed xe) (e :: es) t) (hdb : (x == ("__debug__" : Str)) = false := by decide) (he : starEach (e :: es) X.env = (false, eval e X.env) :: starEach es X.env := by rfl) (hpl : (backTo pos (starEach es X.env)).any (·.1) = false := by rfl) :
    PEX X (.Call (.Name x p) (e :: es) [] pos) (xCall sp dvs t) := by
  intro pins s σ H Q E XE I h hx
  refine wpAny_Call_Name_kw (ld_glob I hg hm ?_ hdb)
  refine PySem.W.callWith_K (h₀ := X.base) I.ok.mod.kin hk (thn (ha XE pos pins s σ H _ I.xed h) fun us s1 ⟨vs, H1, I1, r, q⟩ => ⟨I1.kIn, ?_⟩) he hpl
  exact run_fnX F hr hb hd I1.unxed r q fun e s' c => hx _ _ e s' I1.unxed c
end
section
variable {X : Cx} {e : Expr} {pos : Pos} {t : TEX} {st : Stmt} {rest : List Stmt} {a b : List Stmt} {ta tb : TSX}
def xSet (i : Nat) (t : TEX) : TSX := fun D E σ H => t σ H (fun v H1 => D.nx (σ.set i (some v)) H1) (E σ)
theorem psx_set {i : Nat} {x : Str} {pos' : Pos} (hN : X.N.Nodup) (hi : X.N[i]? = some x) (hx : Loc X.env.scope x) (he : PEX X e t) (hs : swapsWith e (some (.Name x pos')) pos.line X.env = pure false := by rfl) (hf : X.fn x = true ∨ X.env.scope.names.lookup x = some .local := by first | exact .inl rfl | exact .inr rfl | assumption) :
    PSX X [.Assign [.Name x pos'] e pos] (xSet i t) := by
  intro pins s σ H D E XE I h hxe
  refine wpAny_execs_cons (wpAny_Assign_Name (thn (he pins s σ H _ _ XE I h fun H1 s1 => hxe σ H1 s1) fun v s1 ⟨y, H1, I1, r1, q1⟩ => ?_) hs)
  exact store_ok I1 hN hi hx r1 (fun s2 I2 => wpAny_execs_nil ⟨_, H1, I2, q1⟩) hf
end
end L2
namespace L2
open PySem PySem.Spec PyProof.Rows
structure Takes (K : PySem.W.Frag) (D : Addr) (Ok : Addr → Prop) : Prop where
  own : ∃ bmB nid, PySem.W.excIn K D bmB nid = true ∧ bmB.contains (.type "BaseException") = true
  all : ∀ c, Ok c → (∃ bmB nid, PySem.W.excIn K c bmB nid = true) ∧ (Value.ref c :: bmOf K c).contains (.ref D) = true
theorem OwnAt.keeps {h h' : Heap} {C : Addr} {bm bmB : List Value} {nid : String} (x : OwnAt h C bm bmB nid) (k : ∀ b o, h.get? b = some o → h'.get? b = some o) : OwnAt h' C bm bmB nid := by
  obtain ⟨N, nm, qn, bs, hdct, sn, sub, ab, col, dd, k0, k1, k2, k3, k5, mN, hC, hN, hni, T⟩ := x
  exact ⟨N, nm, qn, bs, hdct, sn, sub, ab, col, dd, k0, k1, k2, k3, k5, mN, k _ _ hC, hN.keeps k, hni, T.keeps k⟩
section
variable {X : Cx} {x n : Str} {np hpos pos : Pos} {body suite : List Stmt} {b₀ : Stmt} {i : Nat} {tb : TSX} {ts : TS} {D0 : Addr} {Ok : Addr → Prop}
def tTry (Ok : Addr → Prop) (tb : TSX) (ts : TS) : TS := fun D σ H => tb D (fun σ1 C _ H2 => ∃ c, C = .ref c ∧ Ok c ∧ ∀ a, H2 a = none → ts D σ1 (upd H2 a (ExcO a (.ref c)))) σ H
theorem ps_try (hst : X.stack = X.env :: X.outer) (hf : X.env.frame = some X.env.locals) (hg : Gl X x) (hm : X.mg x = some (.ref D0)) (tk : Takes X.K D0 Ok)
    (hb : PSX X body tb) (hs : ∀ a, PSs (X.marked (.ref a)) (b₀ :: suite) ts) (hdb : (x == ("__debug__" : Str)) = false := by decide) :
    PS X (.Try body [.ExceptHandler (some (.Name x np)) none (b₀ :: suite) hpos] [] [] pos) (tTry Ok tb ts) := by
  intro pins s σ H D I h
  refine wpAny_Try_except (wpAny_mono (hb pins s σ H D _ _ I h fun σ1 H1 s1 e s2 I1 hc => ?_) (fun f s1 q => ?_) fun _ _ z => z)
  rotate_left
  · cases f with
    | next => exact wpAny_execs_nil q
    | ret v => exact q
    | brk => exact q
    | cont => exact q
  obtain ⟨a, C, H2, rfl, os2, bare2, u, hok, xa, c, rfl, okc, hts⟩ := hc
  have hHa : H2 a = none := by obtain ⟨_, _, _, _, _, _, _, _, _, _, _, _, _, _, _, z, _⟩ := xa; exact z
  obtain ⟨B, a0, fl, st⟩ := fly_inv I1 os2 bare2 u hok xa
  rw [hst] at fl st
  refine wpAny_looks_onW (by rw [I1.ok.frames, hst]) hf fl fun h3 held us3 => ?_
  refine wpAny_landsW held fun h4 fl4 us4 => ?_
  have I4 := st h4 fl4 (us3.trans us4)
  obtain ⟨ob, hob, hobc⟩ := fl4.there
  refine wpAny_handleBy_cons (codeAny_handlers_test (ld_glob (X := X.marked (.ref a)) I4.mark hg hm ?_ hdb)) (by intro q; cases q)
  obtain ⟨⟨bE, nE, qD, hB⟩, hall⟩ := tk
  obtain ⟨⟨bC, nC, qC⟩, hcD⟩ := hall c okc
  have k4 : ∀ b o, X.base.get? b = some o → h4.get? b = some o := fun b o e => (I4.bs b o e).1
  refine matches_own ((own_obj I.ok.mod.kin qC).keeps k4) ((own_obj I.ok.mod.kin qD).keeps k4) hob hobc hB hcD ?_
  refine codeAny_handlers_suite ?_
  refine lands_againW fl4 fun h5 fl5 us5 => ?_
  have I5 := st h5 fl5 ((us3.trans us4).trans us5)
  refine wpAny_mono (hs a pins _ _ _ D I5.mark (hts a hHa)) (fun f s7 q => ?_) fun _ _ z => z.elim
  cases f with
  | next =>
    obtain ⟨σ', H', I', q⟩ := q
    exact ⟨_, _, I'.unmark I.ok, q⟩
  | brk =>
    obtain ⟨σ', H', I', q⟩ := q
    exact ⟨_, _, I'.unmark I.ok, q⟩
  | cont =>
    obtain ⟨σ', H', I', q⟩ := q
    exact ⟨_, _, I'.unmark I.ok, q⟩
  | ret v =>
    obtain ⟨y, σ', H', I', r, q⟩ := q
    exact ⟨y, _, _, I'.unmark I.ok, r, q⟩
end
end L2
namespace L2
open PySem PySem.Spec PyProof.Rows
section
variable {prog : Program} {w : World} {A : Around} {E : Value → Shared → Prop} {h : Heap} {g : Array GenState} {d : Drawn} {t : Nat} {os : OsState} {a C : Addr} {o : Obj} {bm bmB : List Value} {nid : String}
end
section
variable {X : Cx} {pins : List (Addr × Obj)} {σ : St} {H : Hp} {s : Shared}
end
end L2
namespace L2
open PySem PySem.Spec PyProof.Rows
section
variable {X : Cx} {tg : Expr}
def rSlS : V → Option Int → Option Int → Hp → VK → Prop := fun x lo hi H Q => ∃ z, x = .str z ∧ z.length ≤ sizeLine ∧ Q (.str (Txt.slice z lo hi)) H
theorem part_of {v : Value} {k : Option Int} (p : IsPart v k) : ∃ o : Option (Int × Tok), partValue o = v ∧ o.map (·.1) = k := by
  cases p with
  | none => exact ⟨none, rfl, rfl⟩
  | int i t => exact ⟨some (i, t), rfl, rfl⟩
theorem sl_str : SlR X rSlS := by
  intro pins s σ H x v vl vu lo hi sl Q I rx hs pl pu h
  obtain ⟨z, rfl, hz, q⟩ := h
  obtain ⟨t, rfl⟩ := rx
  obtain ⟨l, el, ml⟩ := part_of pl
  obtain ⟨u, eu, mu⟩ := part_of pu
  refine ⟨"str", _, F.slot_str_getitem.lookup, typeIs_str _ _ _, ?_⟩
  obtain ⟨o, h1, h2, h3⟩ := hs
  refine wpAny_getItem_str_slice (l := l) (u := u) (st := none) ⟨o, h1, h2, by rw [el, eu]; exact h3⟩ rfl ?_
  have e : sliceMade z t l u none = if ((1 : Int) == 1 && (Builtin.Str.strSliceIndices lo hi 1 z.length).length == z.length) = true then .val (.str z t) else .str ⟨((Builtin.Str.strSliceIndices lo hi 1 z.length).filterMap (z.cps[·]?)).toArray⟩ := by
    subst ml mu; rfl
  rw [e]
  refine post_val_or_str ⟨Nat.le_trans (Txt.slice_le z lo hi) hz, fun t' k => ?_⟩
  exact ⟨.str (Txt.slice z lo hi), H, I.tok _, ⟨_, rfl⟩, q⟩
def Its (z : Str) : It := ⟨fun i _ => i < z.length, fun i H x H' => H' = H ∧ ∃ c, z.cps[i]? = some c ∧ x = .str ⟨#[c]⟩, fun i _ => z.length ≤ i⟩
theorem turn_str {P : Program} {w : World} {K : PySem.W.Frag} (z : Str) (t : Tok) (it : Addr) (n : String) (hn : n = "str_ascii_iterator" ∨ n = "str_iterator") : Turn P w K tg (Its z) [it] it (fun i h => h.IsStrIter it n z t i) where
  mem := by simp
  obj := fun i h st b hb => by
    have e : b = it := by simpa using hb
    subst e
    obtain ⟨o, e, c, d⟩ := st
    exact ⟨o, e, fun v z => by rw [d] at z; cases z⟩
  keep := fun i h h' st k => by
    obtain ⟨o, e, c⟩ := st
    exact ⟨o, k it (by simp) o e, c⟩
  item := by
    intro X hP hw hK hc i pins s σ H E I hf st hg
    subst hP hw hK
    obtain ⟨f0, f1, f2, f3, f4, f5⟩ := hf it (by simp)
    have hi : i < z.cps.size := hg
    have hx : z.cps[i]? = some z.cps[i] := by simp [hi]
    have fin : ∀ h', h'.IsStrIter it n z t (i + 1) → Heap.SameBut it s.heap h' → ∃ u, some (Value.str ⟨#[z.cps[i]]⟩ s.toks) = some u ∧
        wpAny (model X.prog X.w) X.A (letOwnedTupleGo tg (.ref it) u) (fun _ s2 => ∃ x H', Inv X pins σ H' s2 ∧ RelV x u ∧ (Its z).yld i H x H' ∧ s2.heap.IsStrIter it n z t (i + 1) ∧ ∀ b ∈ [it], H' b = none) E { s with heap := h', toks := s.toks + 1 } := fun h' st' sb => by
      have I1 : Inv X pins σ H { s with heap := h', toks := s.toks + 1 } := I.turned (fun b o hb e => (sb.2 b hb).trans e) f0 f1 f3 f4 f5
      obtain ⟨o, e, c, d⟩ := id st'
      exact ⟨_, rfl, go_of (s := { s with heap := h', toks := s.toks + 1 }) e c d (by rcases hn with rfl | rfl <;> decide) ⟨.str ⟨#[z.cps[i]]⟩, H, I1, ⟨_, rfl⟩, ⟨rfl, _, hx, rfl⟩, st', fun b hb => (hf b hb).1⟩⟩
    rcases hn with rfl | rfl
    · exact wpAny_pyNext_ascii_item st hx fin
    · exact wpAny_pyNext_wide_item st hx fin
  done := by
    intro X hP hw hK hc i pins s σ H E I hf st hg
    subst hP hw hK
    obtain ⟨f0, f1, f2, f3, f4, f5⟩ := hf it (by simp)
    have hx : z.cps[i]? = none := by simpa using (show z.cps.size ≤ i from hg)
    rcases hn with rfl | rfl
    · exact wpAny_pyNext_ascii_end (I.ok.hd hc) st hx fun h' eb => ⟨rfl, I.turned (t' := s.toks) (fun b o hb e => eb b o hb e) f0 f1 f3 f4 f5⟩
    · exact wpAny_pyNext_wide_end (I.ok.hd hc) st hx fun h' eb => ⟨rfl, I.turned (t' := s.toks) (fun b o hb e => eb b o hb e) f0 f1 f3 f4 f5⟩
  self := fun _ _ _ _ _ st h => by
    rcases hn with rfl | rfl
    · exact wpAny_pyIter_striter_ascii st h
    · exact wpAny_pyIter_striter_wide st h
def iStr (tl : TE) : TI := fun σ H R => tl σ H fun x H1 => ∃ z, x = .str z ∧ R (Its z) H1
theorem pi_str {l : Expr} {tl : TE} (hl : PE X l tl) : PI X tg l (iStr tl) := by
  intro pins s σ H R I h
  refine thn (hl pins s σ H _ I h) fun v s1 ⟨x, H1, I1, r1, q1⟩ => ?_
  obtain ⟨z, rfl, q⟩ := q1
  obtain ⟨t, rfl⟩ := r1
  have fin : ∀ n : String, (n = "str_ascii_iterator" ∨ n = "str_iterator") → PIE X pins σ tg R (.ref s1.heap.objs.size) { s1 with heap := s1.heap.push { cls := .type n, data := .fields #[.str z t, .int 0 0] } } := fun n hn => by
    refine ⟨s1.heap.objs.size, [s1.heap.objs.size], _, _, H1, rfl, I1.kept (t' := s1.toks) fun b o e => Heap.get?_push_of_some _ e, turn_str z t _ n hn, ⟨_, Heap.get?_push_size _ rfl, rfl, rfl⟩, fun b hb => ?_, q⟩
    have e : b = s1.heap.objs.size := by simpa using hb
    subst e
    exact I1.fpOk (Nat.le_refl _) (I1.hok.fresh (Nat.le_refl _))
  cases ha : z.cps.all (· < 128)
  · exact wpAny_pyIter_wide ha (fin _ (.inr rfl))
  · exact wpAny_pyIter_ascii ha (fin _ (.inl rfl))
end
end L2
namespace L2
open PySem PySem.Spec PyProof.Rows
section
variable {X : Cx}
theorem truths_at {bs : List Bool} {its : List Value} (r : Vals (bs.map V.bl) its) {i : Nat} {v : Value} (e : its[i]? = some v) : v = .bool (bs.getD i false) := by
  have hl := r.length
  obtain ⟨hi, _⟩ := List.getElem?_eq_some_iff.mp e
  have hb : i < bs.length := by rw [List.length_map] at hl; omega
  have hx : (bs.map V.bl)[i]? = some (V.bl (bs.getD i false)) := by simp [hb]
  obtain ⟨u, e2, ru⟩ := r.get hx
  rw [e] at e2; cases e2
  exact ru
theorem range_all (bs : List Bool) : ((List.range bs.length).all fun i => bs.getD i false) = bs.all id := by
  rw [Bool.eq_iff_iff, List.all_eq_true, List.all_eq_true]
  constructor
  · intro h x hx
    obtain ⟨i, hi, e⟩ := List.getElem_of_mem hx
    have := h i (List.mem_range.mpr hi)
    simpa [List.getD_eq_getElem?_getD, List.getElem?_eq_getElem hi, e] using this
  · intro h i hi
    have hi := List.mem_range.mp hi
    have := h bs[i] (List.getElem_mem hi)
    simpa [List.getD_eq_getElem?_getD, List.getElem?_eq_getElem hi] using this
theorem call_allL (hc : X.calm = true) : CallR X (.builtin "all") (fun xs H Q => ∃ (p : Addr) (bs : List Bool), xs = [.ref p] ∧ SqL X.K H p (bs.map V.bl) ∧ Q (.bl (bs.all id)) H) := by
  intro pins s σ H vs us Q I r h
  obtain ⟨p, bs, rfl, hS, q⟩ := h
  obtain ⟨u, rfl, ru⟩ := vals1 r
  cases ru
  obtain ⟨its, rv, pl, hz⟩ := I.list hS
  have hl : its.length = bs.length := by have := rv.length; rw [List.length_map] at this; omega
  refine call_all_walk (wpAny_pyIter_list pl.isList ?_)
  obtain ⟨ol, el, cl, dl⟩ := id pl.isList
  have hpne : p ≠ s.heap.objs.size := Nat.ne_of_lt (Heap.lt_size el)
  have W := Walks.list (prog := X.prog) (w := X.w) (A := X.A.in1) (show X.A.in1.handled = none from I.ok.hd hc) s.heap.objs.size p hpne its.toArray
  refine ⟨s.heap.objs.size, [s.heap.objs.size, p], [s.heap.objs.size], its.toArray.size, _, _, fun i => bs.getD i false, rfl, W, ⟨⟨_, Heap.get?_push_size _ rfl, rfl, rfl⟩, ⟨ol, Heap.get?_push_of_some _ el, cl, dl⟩⟩, ?_, ?_⟩
  · intro i v s' Q' E' hP hQ
    have e : v = .bool (bs.getD i false) := truths_at rv (by simpa using hP)
    subst e
    exact wpAny_pure hQ
  · intro h' tk hk
    have e : ((List.range its.toArray.size).all fun i => bs.getD i false) = bs.all id := by
      rw [List.size_toArray, hl]; exact range_all bs
    rw [e]
    refine ⟨.bl (bs.all id), H, I.kept (t' := tk) fun b o e => hk b o (fun z => ?_) (Heap.get?_push_of_some _ e), rfl, q⟩
    have z' : b = s.heap.objs.size := by simpa using z
    subst z'
    exact absurd (Heap.lt_size e) (Nat.lt_irrefl _)
def PP (X : Cx) (e : Expr) (t : St → Hp → (Hp → Prop) → Prop) : Prop :=
  ∀ (pins : List (Addr × Obj)) (s : Shared) (σ : St) (H : Hp) (R : Hp → Prop), Inv X pins σ H s → t σ H R →
    wpAny (model X.prog X.w) X.A (eval e X.env) (fun v s1 => ∃ y u H1, v = .str y u ∧ y.length ≤ 1000000 ∧ Inv X pins σ H1 s1 ∧ R H1) X.xe s
def PJ (X : Cx) (es : List Expr) (t : St → Hp → (Hp → Prop) → Prop) : Prop :=
  ∀ (pins : List (Addr × Obj)) (s : Shared) (σ : St) (H : Hp) (acc : Str) (R : Hp → Prop) (Q : Str → Shared → Prop), Inv X pins σ H s → t σ H R → acc.length + es.length * 1000000 ≤ sizeLine →
    (∀ H' out s', R H' → out.length ≤ sizeLine → Inv X pins σ H' s' → Q out s') → Joins (model X.prog X.w) X.A X.xe (evalEach es X.env) acc Q s
variable {e v1 v2 : Expr} {es : List Expr} {te : TE} {tp t : St → Hp → (Hp → Prop) → Prop} {pos : Pos}
theorem pj_nil : PJ X [] (fun _ H R => R H) := by
  intro pins s σ H acc R Q I h hl hQ
  exact hQ H acc s h (by simpa using hl) I
theorem pj_cons (hp : PP X e tp) (h : PJ X es t) (he : evalEach (e :: es) X.env = eval e X.env :: evalEach es X.env := by rfl) : PJ X (e :: es) (fun σ H R => tp σ H fun H1 => t σ H1 R) := by
  intro pins s σ H acc R Q I hh hl hQ
  rw [he]
  refine thn (hp pins s σ H _ I hh) fun v s1 ⟨y, u, H1, ev, hy, I1, q⟩ => ⟨y, u, ev, ?_, ?_⟩
  · rw [strLen_append]; rw [List.length_cons] at hl; omega
  · refine h pins s1 σ H1 _ R Q I1 q ?_ hQ
    rw [strLen_append]; rw [List.length_cons] at hl; omega
theorem pp_str {z : Str} {j : _} (hz : z.length ≤ 1000000) : PP X (.Constant (.str z) j pos) (fun _ H R => R H) :=
  fun _ _ _ H _ I h => Calls.Constant_str ⟨z, _, H, rfl, hz, I.tok _, h⟩
theorem pp_int (he : PE X e te) : PP X (.FormattedValue e (-1) none pos) (fun σ H R => te σ H fun x H1 => ∃ i : Int, x = .int i ∧ i.natAbs.log2 < 1920 ∧ (Str.ofString (toString i)).length ≤ 1000000 ∧ R H1) := by
  intro pins s σ H R I h
  refine wpAny_FormattedValue_plain (thn (he pins s σ H _ I h) fun v s1 ⟨x, H1, I1, r1, i, ex, h1, h2, q⟩ => ?_)
  subst ex
  obtain ⟨t, rfl⟩ := r1
  exact wpAny_formatField_int h1 ⟨_, _, H1, rfl, h2, I1.tok _, q⟩
theorem pp_repr (he : PE X e te) : PP X (.FormattedValue e 114 none pos) (fun σ H R => te σ H fun x H1 => ∃ z, x = .str z ∧ (reprText z).length ≤ 1000000 ∧ R H1) := by
  intro pins s σ H R I h
  refine wpAny_FormattedValue_repr (thn (he pins s σ H _ I h) fun v s1 ⟨x, H1, I1, r1, z, ex, h2, q⟩ => ?_)
  subst ex
  obtain ⟨t, rfl⟩ := r1
  have hz : (reprText z).length ≤ sizeLine := Nat.le_trans h2 (by decide)
  refine wpAny_pyReprObj_gives (typeIs_str _ _ _) F.slot_str_repr F.entry_str_repr (F.args_str_repr_1 _) (gives_str_repr z t) ?_ rfl hz
  exact wpAny_formatField_str ⟨_, _, H1, rfl, h2, I1.tok _, q⟩ ⟨_, _, H1, rfl, h2, (I1.tok _).tok _, q⟩ hz
def tFstr (t : St → Hp → (Hp → Prop) → Prop) : TE := fun σ H Q => t σ H fun H' => ∀ z : Str, z.length ≤ sizeLine → Q (.str z) H'
theorem pe_fstr (h : PJ X (v1 :: v2 :: es) t) (hl : (v1 :: v2 :: es).length * 1000000 ≤ sizeLine := by decide) : PE X (.JoinedStr (v1 :: v2 :: es) pos) (tFstr t) := by
  intro pins s σ H Q I hh
  refine wpAny_JoinedStr (h pins s σ H Str.empty _ _ I hh (by simpa [Str.length, Str.empty] using hl) fun H' out s' q ho I' => ⟨ho, .str out, H', I'.tok _, ⟨_, rfl⟩, q out ho⟩)
end
end L2
namespace L2
open PySem PySem.Spec PyProof.Rows
structure XCls (K : PySem.W.Frag) (mg : Str → Option Value) (x : Str) (C : Addr) : Prop where
  q : PySem.W.excIn K C [.type "ValueError", .type "Exception", .type "BaseException", .type "object"] "ValueError.__new__" = true
  m : mg x = some (.ref C)
section
variable {X : Cx} {K : PySem.W.Frag}
theorem k_all (hc : X.calm = true) (hK : X.K = K := by rfl) : CallR X (.builtin "all") (fun xs H Q => ∃ (p : Addr) (bs : List Bool), xs = [.ref p] ∧ SqL K H p (bs.map V.bl) ∧ Q (.bl (bs.all id)) H) := by subst hK; exact call_allL hc
end
theorem comp_str {z : Str} {caps : List Nat} {tt : TT} {te : TE} {σ : St} {H : Hp} {R : List V → Hp → Prop} (Pv : Nat → List V → Hp → Prop) (h0 : Pv 0 [] H) (hl : ∀ i ys H, i ≤ z.length → Pv i ys H → ys.length ≤ sizeLine)
    (hs : ∀ i c ys H, z.cps[i]? = some c → Pv i ys H → tt (capσ caps σ (some (.str ⟨#[c]⟩))) H fun b H2 => if b = true then te (capσ caps σ (some (.str ⟨#[c]⟩))) H2 fun y H3 => Pv (i + 1) (ys ++ [y]) H3 else Pv (i + 1) ys H2) (hd : ∀ ys H, Pv z.length ys H → R ys H) :
    ∃ W : Nat → Nat → List V → Hp → Prop, (∃ m, W 0 m [] H) ∧ ∀ i m ys H, W i m ys H → ys.length ≤ sizeLine ∧ (((Its z).stop i H ∧ R ys H) ∨ ((Its z).go i H ∧ ∃ N : List V → Hp → Prop, (∀ ys' H', N ys' H' → ∃ m', m' < m ∧ W (i + 1) m' ys' H') ∧ ∀ v H', (Its z).yld i H v H' →
      tt (capσ caps σ (some v)) H' fun b H2 => if b = true then te (capσ caps σ (some v)) H2 fun y H3 => N (ys ++ [y]) H3 else N ys H2)) := by
  refine ⟨fun i m ys H => m = z.length - i ∧ i ≤ z.length ∧ Pv i ys H, ⟨z.length, by simp, Nat.zero_le _, h0⟩, ?_⟩
  rintro i m ys H ⟨rfl, hi, p⟩
  refine ⟨hl i ys H hi p, ?_⟩
  by_cases hlt : i < z.length
  · refine .inr ⟨hlt, Pv (i + 1), fun ys' H' p' => ⟨z.length - (i + 1), by omega, rfl, hlt, p'⟩, fun x H' y => ?_⟩
    obtain ⟨e, c, hc, y⟩ := y
    subst e y
    exact hs i c ys _ hc p
  · have e : i = z.length := by omega
    subst e
    exact .inl ⟨Nat.le_refl _, hd ys H p⟩
abbrev tx (l : List Nat) : Str := ⟨l.toArray⟩
theorem tx_len (l : List Nat) : (tx l).length = l.length := by simp [Str.length]
theorem tx_app (a b : List Nat) : tx a ++ tx b = tx (a ++ b) := by
  show Str.append _ _ = _
  simp [Str.append]
theorem tx_inj {a b : List Nat} (h : tx a = tx b) : a = b := by
  have := congrArg (fun s : Str => s.cps.toList) h
  simpa using this
theorem tx_dec (a b : List Nat) : decide (V.str (tx a) = V.str (tx b)) = decide (a = b) := by
  rw [decide_eq_decide]
  exact ⟨fun h => tx_inj (V.str.inj h), fun h => by rw [h]⟩
theorem in_one (l : List Nat) (c : Nat) : (!(Builtin.Str.occurrences (tx l) (tx [c]) 0 (tx l).length 1).isEmpty) = decide (c ∈ l) := by
  have := StrLaws.found_one (tx l) c
  simpa using this
theorem slice_lo_hi {l : List Nat} {a b : Nat} (hab : a ≤ b) (ha : a ≤ l.length) : Txt.slice (tx l) (some (a : Int)) (some (b : Int)) = tx ((l.drop a).take (b - a)) := by
  have hs : ∀ b', a ≤ b' → b' ≤ l.length → Txt.slice (tx l) (some (a : Int)) (some (b' : Int)) = tx ((l.drop a).take (b' - a)) := fun b' h1 h2 => by
    have := StrLaws.sliceText_nat (tx l) h1 (by rw [tx_len]; exact h2)
    exact this
  by_cases hb : b ≤ l.length
  · exact hs b hab hb
  · have e : Txt.slice (tx l) (some (a : Int)) (some (b : Int)) = Txt.slice (tx l) (some (a : Int)) (some (l.length : Int)) := by
      have i : Builtin.Str.strSliceIndices (some (a : Int)) (some (b : Int)) 1 (tx l).length = Builtin.Str.strSliceIndices (some (a : Int)) (some (l.length : Int)) 1 (tx l).length := by
        rw [tx_len]
        have n1 : ¬ ((b : Int) < 0) := by omega
        have n2 : ¬ ((l.length : Int) < 0) := by omega
        have m1 : min (b : Int) (l.length : Int) = l.length := by omega
        have m2 : min (l.length : Int) (l.length : Int) = l.length := by omega
        simp [Builtin.Str.strSliceIndices, n1, n2, m1]
      unfold Txt.slice
      rw [i]
    rw [e, hs l.length ha (Nat.le_refl _)]
    congr 1
    have e1 : (l.drop a).length = l.length - a := List.length_drop
    rw [List.take_of_length_le (by omega), List.take_of_length_le (by omega)]
theorem repr_short {l : List Nat} (h : ∀ c ∈ l, c < 16 ^ 8) : (reprText (tx l)).length ≤ 10 * l.length + 2 := by
  have := StrLaws.reprText_len (tx l) (by simpa using h)
  rw [tx_len] at this
  exact this
end L2
namespace PySem
theorem meets_int_new_one (t : Tok) : Meets (Builtin.«int.__new__» ⟨[.type "int", .str ⟨#[49]⟩ t], []⟩) (Made.int 1).spec :=
  Meets.of_wp fun prog w A R s hs => by
    obtain ⟨hp, g, d, tk, os⟩ := s
    have f1 := F.conv_sub_int
    have f2 := F.madeHere_int
    have hT : (⟨hp, g, d, tk, os⟩ : Shared).TypeIs (.str ⟨#[49]⟩ t) "str" := rfl
    have f3 : typeLookup (.type "str") "__int__" = pure none := by rw [typeLookup_type, builtinLookup_eq_fast]; kernel_rfl
    have f4 : typeLookup (.type "str") "__index__" = pure none := by rw [typeLookup_type, builtinLookup_eq_fast]; kernel_rfl
    have f5 : typeLookup (.type "str") "__trunc__" = pure none := by rw [typeLookup_type, builtinLookup_eq_fast]; kernel_rfl
    repeat (any_goals (first | assumption | wp_step))
    all_goals try (with_unfolding_all show wpAny _ _ (mkInt 1 >>= _) _ _ _)
    repeat (any_goals (first | assumption | wp_step))
    all_goals first | exact ⟨_, rfl, hs⟩ | skip
end PySem
namespace L2
open PySem PySem.Spec PyProof.Rows
section
variable {X : Cx}
theorem call_int_txt : CallR X (.type "int") (fun xs H Q => (∃ k, xs = [.bl k] ∧ Q (.int (if k then 1 else 0)) H) ∨ ∃ z, xs = [.str z] ∧ z = tx [49] ∧ Q (.int 1) H) := by
  intro pins s σ H xs us Q I r h
  rcases h with ⟨k, rfl, q⟩ | ⟨z, rfl, rfl, q⟩
  · exact call_int1 pins s σ H _ us Q I r (.inr ⟨k, rfl, q⟩)
  · obtain ⟨u, rfl, t, rfl⟩ := vals1 r
    exact call_int_1 (meets_int_new_one t) (show (Made.int 1).post _ s from ⟨rfl, .int 1, H, I.tok _, ⟨_, rfl⟩, q⟩)
def tTopGet (w : World) (K : PySem.W.Frag) (td : TE) (t : TA) : TE := fun σ H Q => td σ H fun x H1 => ∃ a kvs, x = .ref a ∧ TopD w K a kvs ∧ t σ H1 fun vs H2 => ∃ k z, vs = [.str k, z] ∧ Q ((kvs.lookup k).getD z) H2
variable {o e f : Expr} {td : TE} {t : TA} {apos cpos : Pos} {K : PySem.W.Frag} {w : World}
theorem pe_getTop (ho : PE X o td) (ha : PA X [e, f] t) (hK : X.K = K := by rfl) (hw : X.w = w := by rfl)
    (hbase : attributeBase o "get" X.env (eval o X.env) = eval o X.env := by rfl)
    (hfew : ((backTo cpos (starEach [e, f] X.env)).all (fun x => !x.1) && (backToKw cpos (keywordEach [] X.env)).all (fun x => x.1.isSome)
      && decide ([e, f].length + ([] : List Keyword).length + (if ([] : List Keyword).isEmpty then 0 else 1) < 30)) = true := by rfl)
    (hline : (apos.endLine == cpos.line) = true := by rfl) (hs : starEach [e, f] X.env = (false, eval e X.env) :: starEach [f] X.env := by rfl) (hplain : (backTo cpos (starEach [f] X.env)).any (·.1) = false := by rfl) :
    PE X (.Call (.Attribute o "get" apos) [e, f] [] cpos) (tTopGet w K td t) := by
  subst hK; subst hw
  intro pins s σ H Q I h
  refine wpAny_Call_method_late hbase hfew hline rfl (thn (ho pins s σ H _ I h) fun v s1 ⟨x, H1, I1, r1, a, kvs, ex, T, q1⟩ => ?_)
  subst ex
  cases r1
  obtain ⟨f0, hm, hf⟩ := T.map (prog := X.prog) I1.kIn
  obtain ⟨es, n, hl, _, _⟩ := T.ex
  refine ⟨"dict", _, PySem.F.plainAttrs_dict, PySem.F.slot_dict_get, PySem.F.type_dict_get, hm.typeIs, fun b eb => ?_, ?_⟩
  · cases eb
    exact ⟨_, I1.kIn _ _ hl, rfl⟩
  have hA := ha cpos pins s1 σ H1 _ I1 q1
  rw [hs] at hA ⊢
  refine Calls.callWith_builtin (by show (false || (backTo cpos (starEach [f] X.env)).any (·.1)) = false; rw [hplain] <;> rfl) (Calls.evalArgs_plain (thn hA fun us s2 ⟨vs, H2, I2, r2, q2⟩ => ?_))
  obtain ⟨k, z, rfl, q⟩ := q2
  obtain ⟨u1, u2, rfl, ⟨t1, rfl⟩, rz⟩ := vals2 r2
  obtain ⟨f1, hm1, hf1⟩ := T.map (prog := X.prog) I2.kIn
  refine call_meetsIn PySem.F.slot_dict_get hm1.typeIs PySem.F.entry_dict_get (PySem.F.args_dict_get_3 _ _ _) (meets_dict_get_default (strKind X.prog X.w) a (strKind_is X.prog X.w k t1) T.lo u2) ⟨f1, hm1, _, H2, I2.tok _, ?_, q⟩
  have hr := hf1 k
  cases h1 : kvs.lookup k with
  | none => rw [h1] at hr; rw [hr.none_of]; exact rz
  | some y => rw [h1] at hr; obtain ⟨w', e', r'⟩ := hr.some_of; rw [e']; exact r'
end
end L2
namespace L2
open PySem PySem.Spec PyProof.Rows
section
variable {X : Cx} {K : PySem.W.Frag}
end
end L2
namespace L2
open PySem PySem.Spec PyProof.Rows
inductive Deep (H : Hp) : Nat → V → V → Prop where
  | same {n : Nat} {v : V} (h : plainV v = true) : Deep H n v v
  | tup {n : Nat} {a b : Addr} {xs ys : List V} (ha : H a = some (.tup xs)) (hb : H b = some (.tup ys)) (hl : xs.length = ys.length) (h : ∀ (i : Nat) x y, xs[i]? = some x → ys[i]? = some y → Deep H n x y) : Deep H (n + 1) (.ref a) (.ref b)
section
variable {X : Cx} {K : PySem.W.Frag}
theorem vals_at {xs : List V} {us : List Value} (r : Vals xs us) {j : Nat} (h1 : j < us.toArray.size) : ∃ x, xs[j]? = some x ∧ RelV x us.toArray[j] := by
  have hj : j < xs.length := by rw [r.length]; simpa using h1
  obtain ⟨u, hu, ru⟩ := r.get (i := j) (x := xs[j]) (by simp [hj])
  refine ⟨xs[j], by simp [hj], ?_⟩
  have : us[j]? = some us.toArray[j] := by simp
  rw [hu] at this
  rw [← Option.some.inj this]; exact ru
theorem deep_eq {pins : List (Addr × Obj)} {σ : St} {H : Hp} {s : Shared} (I : Inv X pins σ H s) : ∀ (n : Nat) (A : Around) (x y : V) (u v : Value), A.units + n < cLine → Deep H n x y → RelV x u → RelV y v → SeqAt.EqAt A s u v true := by
  intro n
  induction n with
  | zero =>
    intro A x y u v hu d r r'
    cases d with
    | same h => exact eqAt_same r r' h
  | succ n ih =>
    intro A x y u v hu d r r'
    cases d with
    | same h => exact eqAt_same r r' h
    | @tup _ a b xs ys ha hb hl h =>
      cases r; cases r'
      by_cases e : a = b
      · subst e; exact SeqAt.EqAt.same _
      obtain ⟨its, rv, tp, _⟩ := I.tuple (SqT.of ha)
      obtain ⟨its2, rv2, tp2, _⟩ := I.tuple (SqT.of hb)
      have hl2 : its.length = its2.length := by rw [← rv.length, ← rv2.length]; exact hl
      have := SeqAt.RcAt.tuples (A := A) (s := s) (e := fun _ => true) tp tp2 (by omega) (fun j h1 h2 => by
        obtain ⟨x, hx, rx⟩ := vals_at rv h1
        obtain ⟨y, hy, ry⟩ := vals_at rv2 h2
        exact ih A.in1 x y _ _ (show A.units + 1 + n < cLine by omega) (h j x y hx hy) rx ry)
      have e2 : ((List.range (min its.toArray.size its2.toArray.size)).all (fun _ => true) && its.toArray.size == its2.toArray.size) = true := by simp [hl2]
      rw [e2] at this
      exact SeqAt.EqAt.of_refs e this
def rEqD : R2 := fun x y H Q => ∃ a b xs ys, x = .ref a ∧ y = .ref b ∧ H a = some (.tup xs) ∧ H b = some (.tup ys) ∧ Deep H 40 x y ∧ Q (.bl true) H
theorem op_eqD (hu : X.A.units + 64 < cLine) : OpR X (compareOp .Eq) rEqD := by
  intro pins s σ H x y v u Q I rx ry h
  obtain ⟨a, b, xs, ys, rfl, rfl, ha, hb, d, q⟩ := h
  cases rx; cases ry
  obtain ⟨its, rv, tp, _⟩ := I.tuple (SqT.of ha)
  obtain ⟨its2, rv2, tp2, _⟩ := I.tuple (SqT.of hb)
  by_cases e : a = b
  · subst e
    have e1 := I.tuple (SqT.of ha)
    refine SeqAt.eq_tupleAt (e := fun _ => true) tp tp (by omega) (fun j h1 h2 => SeqAt.EqAt.same _) ⟨.bl true, H, I, ?_, q⟩
    have : ((List.range (min its.toArray.size its.toArray.size)).all (fun _ => true) && its.toArray.size == its.toArray.size) = true := by simp
    rw [this]; rfl
  · cases d with
    | same h => exact absurd rfl e
    | @tup _ _ _ xs' ys' ha' hb' hl h =>
      rw [ha] at ha'; cases ha'
      rw [hb] at hb'; cases hb'
      have hl2 : its.length = its2.length := by rw [← rv.length, ← rv2.length]; exact hl
      refine SeqAt.eq_tupleAt (e := fun _ => true) tp tp2 (by omega) (fun j h1 h2 => ?_) ⟨.bl true, H, I, ?_, q⟩
      · obtain ⟨x, hx, rx⟩ := vals_at rv h1
        obtain ⟨y, hy, ry⟩ := vals_at rv2 h2
        exact deep_eq I 39 X.A.in1 x y _ _ (show X.A.units + 1 + 39 < cLine by omega) (h j x y hx hy) rx ry
      · have : ((List.range (min its.toArray.size its2.toArray.size)).all (fun _ => true) && its.toArray.size == its2.toArray.size) = true := by simp [hl2]
        rw [this]; rfl
theorem op_neLen (hu : X.A.units < cLine) : OpR X (compareOp .NotEq) (fun x y H Q => ∃ a b xs ys, x = .ref a ∧ y = .ref b ∧ SqL X.K H a xs ∧ SqL X.K H b ys ∧ xs.length ≠ ys.length ∧ Q (.bl true) H) := by
  intro pins s σ H x y v u Q I rx ry h
  obtain ⟨a, b, xs, ys, rfl, rfl, ha, hb, hp, q⟩ := h
  cases rx; cases ry
  obtain ⟨its, r, pl, _⟩ := I.list ha
  obtain ⟨its2, r2, pl2, _⟩ := I.list hb
  have hl : its.length ≠ its2.length := by rw [← r.length, ← r2.length]; exact hp
  exact SeqAt.RcNeAt.lists_lengths pl.isList pl2.isList (by simpa using hl) hu X.prog X.w X.xe _ ⟨.bl true, H, I, rfl, q⟩
theorem kEqD (hu : X.A.units + 64 < cLine) : OpR X (compareOp .Eq) rEqD := op_eqD hu
theorem kNeL (hu : X.A.units < cLine) (hK : X.K = K := by rfl) : OpR X (compareOp .NotEq) (fun x y H Q => rEqL K false x y H Q ∨ ∃ a b xs ys, x = .ref a ∧ y = .ref b ∧ SqL K H a xs ∧ SqL K H b ys ∧ xs.length ≠ ys.length ∧ Q (.bl true) H) := by
  subst hK; exact (op_neL hu).or (op_neLen hu)
end
end L2
namespace L2
open PySem PySem.Spec PyProof.Rows
def Itd (hi : Int) (n : Nat) : It := ⟨fun i _ => i < n, fun i H x H' => H' = H ∧ x = .int (hi - i), fun i _ => n ≤ i⟩
theorem turn_ranged {P : Program} {w : World} {K : PySem.W.Frag} {tg : Expr} (it : Addr) (lo : Int) (n : Nat) : Turn P w K tg (Itd lo n) [it] it (fun i h => IsRangeIter h it (lo + (i : Nat) * (-1)) ((n : Int) - (i : Nat)) (-1)) where
  mem := by simp
  obj := fun i h st b hb => by
    have e : b = it := by simpa using hb
    subst e
    exact ⟨_, st, fun v z => by
      have z' : Data.fields _ = Data.cell v := z
      cases z'⟩
  keep := fun i h h' st k => k it (by simp) _ st
  item := by
    intro X hP hw hK hc i pins s σ H E I hf st hg
    subst hP hw hK
    obtain ⟨f0, f1, f2, f3, f4, f5⟩ := hf it (by simp)
    have W := Walks.range (prog := X.prog) (w := X.w) (I.ok.hd hc) it lo (-1) n
    refine W.item i s _ _ hg st fun v h' tk hv st' kk => ?_
    obtain ⟨t, rfl⟩ := hv
    have I1 : Inv X pins σ H { s with heap := h', toks := tk } := I.turned (fun b o hb e => kk b o (by simpa using hb) e) f0 f1 f3 f4 f5
    refine ⟨_, rfl, go_of (s := { s with heap := h', toks := tk }) (n := "range_iterator") st' rfl rfl (by decide) ⟨.int (lo - i), H, I1, ⟨t, ?_⟩, ⟨rfl, rfl⟩, st', fun b hb => (hf b hb).1⟩⟩
    rw [show lo - (i : Int) = lo + (i : Int) * (-1) by omega]
  done := by
    intro X hP hw hK hc i pins s σ H E I hf st hg
    subst hP hw hK
    obtain ⟨f0, f1, f2, f3, f4, f5⟩ := hf it (by simp)
    exact wpAny_pyNext_range_end (I.ok.hd hc) st (by have : n ≤ i := hg; omega) fun h' eb => ⟨rfl, I.turned (t' := s.toks) (fun b o hb e => eb b o hb e) f0 f1 f3 f4 f5⟩
  self := fun _ _ _ _ _ st h => wpAny_pyIter_rangeiter st h
section
variable {X : Cx} {tg : Expr}
theorem rangeSize_down (a b : Int) : Builtin.Range.rangeSize a b (-1) = if b < a then a - b else 0 := by
  unfold Builtin.Range.rangeSize
  simp only [show ¬ ((-1 : Int) > 0) by decide, if_false, show (-(-1) : Int) = 1 by decide, Int.ediv_one]
  split <;> omega
theorem small_down {a b : Int} (ha : -(2 ^ 62) ≤ a) (ha' : a < 2 ^ 62) (hb : -(2 ^ 62) ≤ b) (hb' : b < 2 ^ 62) : Builtin.Range.small a b (-1) = true := by
  unfold Builtin.Range.small
  rw [rangeSize_down]
  simp only [Builtin.Range.rangeFitsLong, Bool.and_eq_true, Bool.or_eq_true, decide_eq_true_eq, beq_iff_eq, show ¬ ((-1 : Int) > 0) by decide, if_false]
  split <;> omega
theorem range_itd {pins : List (Addr × Obj)} {σ : St} {H : Hp} {s : Shared} {R : It → Hp → Prop} {E : Value → Shared → Prop} {lo hi : Int} {t u v : Tok} {tk : Nat} (I : Inv X pins σ H s) (h1 : -(2 ^ 62) ≤ lo) (h2 : lo < 2 ^ 62) (h3 : -(2 ^ 62) ≤ hi) (h4 : hi < 2 ^ 62)
    (q : R (Itd lo (lo - hi).toNat) H) : wpAny (model X.prog X.w) X.A (pyIter (.ref s.heap.objs.size)) (PIE X pins σ tg R) E { s with heap := s.heap.push { cls := .type "range", data := .fields #[.int lo t, .int hi u, .int (-1) v] }, toks := tk } := by
  refine wpAny_pyIter_range (IsRange.new ..) (small_down h1 h2 h3 h4) ?_
  have I1 : Inv X pins σ H { s with heap := s.heap.push { cls := .type "range", data := .fields #[.int lo t, .int hi u, .int (-1) v] }, toks := tk } := I.kept fun b o e => Heap.get?_push_of_some _ e
  refine ⟨(s.heap.push { cls := .type "range", data := .fields #[.int lo t, .int hi u, .int (-1) v] }).objs.size, [(s.heap.push { cls := .type "range", data := .fields #[.int lo t, .int hi u, .int (-1) v] }).objs.size], _, _, H, rfl,
    I1.kept (t' := tk) fun b o e => Heap.get?_push_of_some _ e, turn_ranged _ lo (lo - hi).toNat, ?_, fun b hb => ?_, q⟩
  · have e1 : lo + ((0 : Nat) : Int) * (-1) = lo := by simp
    have e2 : (((lo - hi).toNat : Nat) : Int) - ((0 : Nat) : Int) = Builtin.Range.rangeSize lo hi (-1) := by rw [rangeSize_down]; split <;> omega
    show IsRangeIter _ _ (lo + ((0 : Nat) : Int) * (-1)) ((((lo - hi).toNat : Nat) : Int) - ((0 : Nat) : Int)) (-1)
    rw [e1, e2]
    exact Heap.get?_push_size _ rfl
  · have e : b = (s.heap.push { cls := .type "range", data := .fields #[.int lo t, .int hi u, .int (-1) v] }).objs.size := by simpa using hb
    subst e
    exact I1.fpOk (Nat.le_refl _) (I1.hok.fresh (Nat.le_refl _))
def iRng3 (ta : TA) : TI := fun σ H R => ta σ H fun vs H1 => ∃ i j : Int, vs = [.int i, .int j, .int (-1)] ∧ (-(2 ^ 62) ≤ i ∧ i < 2 ^ 62 ∧ -(2 ^ 62) ≤ j ∧ j < 2 ^ 62) ∧ R (Itd i (i - j).toNat) H1
theorem pi_range3 {a b c : Expr} {ta : TA} {p pos : Pos} (hg : Gl X "range") (hm : X.mg "range" = none) (ha : PA X [a, b, c] ta) (hs : starEach [a, b, c] X.env = [(false, eval a X.env), (false, eval b X.env), (false, eval c X.env)] := by rfl) (hs2 : starEach [b, c] X.env = [(false, eval b X.env), (false, eval c X.env)] := by rfl) :
    PI X tg (.Call (.Name "range" p) [a, b, c] [] pos) (iRng3 ta) := by
  intro pins s σ H R I h
  refine Call_ (ld_blt I hg hm boot_range (PyProof.Rows.callWith_type1 (thn (ha pos pins s σ H _ I h) fun us s1 ⟨vs, H1, I1, r1, q1⟩ => ?_) (by rw [hs, hs2]) (by rw [hs2]; rfl)))
  obtain ⟨i, j, e, ⟨q1, q2, q3, q4⟩, q⟩ := q1
  subst e
  cases r1 with
  | cons r rr =>
    cases rr with
    | cons r' rr =>
      cases rr with
      | cons r'' rr =>
        cases rr
        obtain ⟨t, rfl⟩ := r
        obtain ⟨t', rfl⟩ := r'
        obtain ⟨t'', rfl⟩ := r''
        exact call_range_3 (by decide) (range_itd I1 q1 q2 q3 q4 q) (Or.inl (PyProof.noPylong_small (by decide)))
theorem for_down {hi : Int} {n : Nat} {g : TG} {tb : TS} {D : Ends} {σ : St} {H : Hp} (Pv : Nat → St → Hp → Prop) (h0 : Pv 0 σ H)
    (hs : ∀ i σ H, i < n → Pv i σ H → g (.int (hi - i)) σ H fun σ2 H2 => tb { D with nx := Pv (i + 1), ct := Pv (i + 1), bk := D.nx } σ2 H2) (hd : ∀ σ H, Pv n σ H → D.nx σ H) :
    ∃ W : Nat → Nat → St → Hp → Prop, (∃ m, W 0 m σ H) ∧ ∀ i m σ H, W i m σ H →
      ((Itd hi n).stop i H ∧ D.nx σ H) ∨ ((Itd hi n).go i H ∧ ∃ N : St → Hp → Prop, (∀ σ' H', N σ' H' → ∃ m', m' < m ∧ W (i + 1) m' σ' H') ∧ ∀ x H', (Itd hi n).yld i H x H' → g x σ H' fun σ2 H2 => tb { D with nx := N, ct := N, bk := D.nx } σ2 H2) := by
  refine ⟨fun i m σ H => m = n - i ∧ i ≤ n ∧ Pv i σ H, ⟨n, by simp, Nat.zero_le _, h0⟩, ?_⟩
  rintro i m σ H ⟨rfl, hi, p⟩
  by_cases h : i < n
  · refine .inr ⟨h, Pv (i + 1), fun σ' H' q => ⟨n - (i + 1), by omega, rfl, h, q⟩, ?_⟩
    rintro x H' ⟨rfl, rfl⟩
    exact hs i σ _ h p
  · have e : i = n := by omega
    subst e
    exact .inl ⟨Nat.le_refl _, hd σ H p⟩
end
end L2
namespace BU
open PySem L2
def Tups (H H' : Hp) : Prop := ∀ b xs, H b = some (.tup xs) → H' b = some (.tup xs)
theorem Tups.trans {H H1 H2 : Hp} (a : Tups H H1) (b : Tups H1 H2) : Tups H H2 := fun c xs h => b c xs (a c xs h)
theorem Tups.lst {H : Hp} {p : Addr} {xs : List V} (h : H p = some (.lst xs)) (o : HO) : Tups H (upd H p o) := fun b ys q => by
  rw [upd_ne (ne_of q h (by intro z; cases z))]; exact q
theorem tups_of {H H' : Hp} (h : Same H H') : Tups H H' := fun b xs q => h b _ q
theorem same_new {H : Hp} {p : Addr} (h : H p = none) (o : HO) : Same H (upd H p o) := fun b u q => by rw [upd_ne (ne_of_none q h)]; exact q
inductive All2 {α β : Type} (R : α → β → Prop) : List α → List β → Prop where
  | nil : All2 R [] []
  | cons {a b as bs} : R a b → All2 R as bs → All2 R (a :: as) (b :: bs)
namespace All2
variable {α β : Type} {R S : α → β → Prop}
theorem imp {as : List α} {bs : List β} (h : All2 R as bs) (f : ∀ a b, R a b → S a b) : All2 S as bs := by
  induction h with
  | nil => exact .nil
  | cons r _ ih => exact .cons (f _ _ r) ih
theorem app {as as' : List α} {bs bs' : List β} (h : All2 R as bs) (h' : All2 R as' bs') : All2 R (as ++ as') (bs ++ bs') := by
  induction h with
  | nil => exact h'
  | cons r _ ih => exact .cons r ih
theorem len {as : List α} {bs : List β} (h : All2 R as bs) : as.length = bs.length := by
  induction h with
  | nil => rfl
  | cons _ _ ih => simp only [List.length_cons, ih]
theorem get {as : List α} {bs : List β} (h : All2 R as bs) : ∀ {i : Nat} {b : β}, bs[i]? = some b → ∃ a, as[i]? = some a ∧ R a b := by
  induction h with
  | nil => intro i b e; simp at e
  | @cons a b as bs r _ ih =>
    intro i c e
    cases i with
    | zero => simp at e; subst e; exact ⟨a, rfl, r⟩
    | succ i => exact ih (by simpa using e)
theorem get' {as : List α} {bs : List β} (h : All2 R as bs) : ∀ {i : Nat} {a : α}, as[i]? = some a → ∃ b, bs[i]? = some b ∧ R a b := by
  induction h with
  | nil => intro i b e; simp at e
  | @cons a b as bs r _ ih =>
    intro i c e
    cases i with
    | zero => simp at e; subst e; exact ⟨b, rfl, r⟩
    | succ i => exact ih (by simpa using e)
theorem split {as as' : List α} : ∀ {bs : List β}, All2 R (as ++ as') bs → ∃ b1 b2, bs = b1 ++ b2 ∧ All2 R as b1 ∧ All2 R as' b2 := by
  induction as with
  | nil => intro bs h; exact ⟨[], bs, rfl, .nil, h⟩
  | cons a as ih =>
    intro bs h
    cases h with
    | cons r h =>
      obtain ⟨b1, b2, rfl, h1, h2⟩ := ih h
      exact ⟨_ :: b1, b2, rfl, .cons r h1, h2⟩
end All2
end BU
namespace BU
open PySem L2
end BU
namespace K10
def letter (c : Nat) : Bool := decide (c ∈ [97, 98, 99, 100, 101, 102, 103, 104, 105, 106, 107, 108, 109, 110, 111, 112, 113, 114, 115, 116, 117, 118, 119, 120, 121, 122])
def figure (c : Nat) : Bool := decide (c ∈ [48, 49, 50, 51, 52, 53, 54, 55, 56, 57])
def long (c : Nat) : Bool := letter c || figure c
def gap (c : Nat) : Bool := decide (c ∈ [32, 9, 10])
def mark (c : Nat) : Bool := decide (c ∈ [40, 41, 44, 61, 43, 45, 42, 47, 60, 58, 33, 91, 93])
def good (w : List Nat) : Bool := match w with
  | [] => false
  | c :: _ => if figure c then w.all figure && decide (w.length ≤ 12) && (decide (w = [48]) || !decide (c = 48)) else decide (w.length ≤ 8)
def wordAt : List Nat → Option (List Nat)
  | [] => none
  | c :: r => if long c then (if good ((c :: r).takeWhile long) then some ((c :: r).takeWhile long) else none)
    else if (c :: r).take 2 = [61, 62] then some [61, 62]
    else if mark c then some [c] else none
theorem wordAt_cons (c : Nat) (r : List Nat) : wordAt (c :: r) = if long c then (if good ((c :: r).takeWhile long) then some ((c :: r).takeWhile long) else none)
    else if (c :: r).take 2 = [61, 62] then some [61, 62]
    else if mark c then some [c] else none := rfl
theorem takeWhile_pos {c : Nat} {r : List Nat} (h : long c = true) : ((c :: r).takeWhile long) = c :: r.takeWhile long := by simp [List.takeWhile, h]
theorem wordAt_pos {t w : List Nat} (h : wordAt t = some w) : 0 < w.length := by
  cases t with
  | nil => cases h
  | cons c r =>
    rw [wordAt_cons] at h
    split at h
    · rename_i hl
      split at h
      · cases h; rw [takeWhile_pos hl]; simp
      · cases h
    · split at h
      · cases h; decide
      · split at h
        · cases h; simp
        · cases h
def cut : Nat → List Nat → Option (List (List Nat))
  | 0, _ => some []
  | _ + 1, [] => some []
  | n + 1, c :: r => if gap c then cut n r else match wordAt (c :: r) with
    | none => none
    | some w => (cut n ((c :: r).drop w.length)).map (w :: ·)
theorem cut_more : ∀ (n m : Nat) (t : List Nat), t.length ≤ n → t.length ≤ m → cut n t = cut m t
  | n, m, [], _, _ => by cases n <;> cases m <;> rfl
  | 0, _, _ :: _, h, _ => by simp at h
  | _, 0, _ :: _, _, h => by simp at h
  | n + 1, m + 1, c :: r, h1, h2 => by
    simp only [List.length_cons] at h1 h2
    unfold cut
    split
    · exact cut_more n m r (by omega) (by omega)
    · cases hw : wordAt (c :: r) with
      | none => rfl
      | some w =>
        have hp := wordAt_pos hw
        dsimp only
        rw [cut_more n m _ (by rw [List.length_drop, List.length_cons]; omega) (by rw [List.length_drop, List.length_cons]; omega)]
def words (t : List Nat) : Option (List (List Nat)) := cut t.length t
theorem words_nil : words [] = some [] := rfl
theorem words_gap {c : Nat} {r : List Nat} (h : gap c = true) : words (c :: r) = words r := by
  show cut (r.length + 1) (c :: r) = _
  unfold cut
  rw [if_pos h]
  rfl
theorem words_word {c : Nat} {r w : List Nat} (h : gap c = false) (hw : wordAt (c :: r) = some w) : words (c :: r) = (words ((c :: r).drop w.length)).map (w :: ·) := by
  show cut (r.length + 1) (c :: r) = _
  unfold cut
  rw [if_neg (by rw [h]; simp), hw]
  have hp := wordAt_pos hw
  show (cut r.length _).map _ = _
  unfold words
  rw [cut_more r.length ((c :: r).drop w.length).length _ (by rw [List.length_drop, List.length_cons]; omega) (Nat.le_refl _)]
theorem words_none {c : Nat} {r : List Nat} (h : gap c = false) (hw : wordAt (c :: r) = none) : words (c :: r) = none := by
  show cut (r.length + 1) (c :: r) = _
  unfold cut
  rw [if_neg (by rw [h]; simp), hw]
end K10
set_option maxHeartbeats 4000000
namespace K10
open PySem L2
seal PE PT PW PA PS PSs PTs PI PG PGs PO
def top (i : Nat) : Stmt := PySem.Challenge.pw_speakmill_k12_strengths.main.body.getD i (.Pass ⟨0, 0, 0, 0⟩)
abbrev s_in_long_word : Stmt := top 20
abbrev s_is_told : Stmt := top 23
abbrev s_is_number : Stmt := top 22
abbrev s_is_name : Stmt := top 24
theorem sc_in_long_word : FnScope ["sign"] ["sign"] (defScope s_in_long_word) := ⟨rfl, rfl, rfl, by decide +kernel, rfl, by decide +kernel, by decide +kernel⟩
theorem sc_is_told : FnScope ["word"] ["word"] (defScope s_is_told) := ⟨rfl, rfl, rfl, by decide +kernel, rfl, by decide +kernel, by decide +kernel⟩
theorem sc_is_number : FnScope ["word"] ["word"] (defScope s_is_number) := ⟨rfl, rfl, rfl, by decide +kernel, rfl, by decide +kernel, by decide +kernel⟩
theorem sc_is_name : FnScope ["word"] ["word"] (defScope s_is_name) := ⟨rfl, rfl, rfl, by decide +kernel, rfl, by decide +kernel, by decide +kernel⟩
structure NoG (mg : Str → Option Value) : Prop where
  len_ : mg "len" = none
  isinstance_ : mg "isinstance" = none
  range_ : mg "range" = none
  list_ : mg "list" = none
  str_ : mg "str" = none
  all_ : mg "all" = none
  ValueError_ : mg "ValueError" = none
def Same (H H' : Hp) : Prop := ∀ b o, H b = some o → H' b = some o
theorem Same.refl {H : Hp} : Same H H := fun _ _ h => h
theorem Same.trans {H H1 H2 : Hp} (a : Same H H1) (b : Same H1 H2) : Same H H2 := fun x o h => b x o (a x o h)
theorem same_new {H : Hp} {p : Addr} (h : H p = none) (o : HO) : Same H (upd H p o) := fun b u q => by rw [upd_ne (ne_of_none q h)]; exact q
theorem Same.free {H H' : Hp} (s : Same H H') {a : Addr} (h : H' a = none) : H a = none := by
  cases q : H a with
  | none => rfl
  | some o => rw [s a o q] at h; cases h
theorem ifT {c A B : Prop} [Decidable c] (h : c) (a : A) : if c then A else B := by rw [if_pos h]; exact a
theorem ifF {c A B : Prop} [Decidable c] (h : ¬ c) (b : B) : if c then A else B := by rw [if_neg h]; exact b
theorem in_lit {s : String} {l : List Nat} (h : Str.ofString s = tx l) (c : Nat) : (!(Builtin.Str.occurrences (Str.ofString s) (tx [c]) 0 (Str.ofString s).length 1).isEmpty) = decide (c ∈ l) := by rw [h]; exact in_one l c
theorem in_letters (c : Nat) : (!(Builtin.Str.occurrences (Str.ofString "abcdefghijklmnopqrstuvwxyz") (tx [c]) 0 (Str.ofString "abcdefghijklmnopqrstuvwxyz").length 1).isEmpty) = letter c := in_lit (by decide +kernel) c
theorem in_figures (c : Nat) : (!(Builtin.Str.occurrences (Str.ofString "0123456789") (tx [c]) 0 (Str.ofString "0123456789").length 1).isEmpty) = figure c := in_lit (by decide +kernel) c
theorem eq_lit {s : String} {l w : List Nat} (h : Str.ofString s = tx l) : decide (V.str (tx w) = V.str (Str.ofString s)) = decide (w = l) := by rw [h]; exact tx_dec w l
def toldW : List (List Nat) := [[100, 101, 102], [105, 102], [116, 104, 101, 110], [101, 108, 115, 101], [108, 101, 116], [105, 110], [102, 110], [121, 101, 115], [110, 111], [104, 101, 97, 100], [116, 97, 105, 108], [101, 109, 112, 116, 121], [110, 111, 116]]
def told (w : List Nat) : Bool := decide (w ∈ toldW)
def isNum (w : List Nat) : Bool := !(decide (w = []) || decide (12 < w.length)) && (w.all figure && (!decide (w.head? = some 48) || decide (w = [48])))
def isName (w : List Nat) : Bool := !(decide (w = []) || decide (8 < w.length) || told w) && ((w.head?.elim false letter) && w.all long)
theorem inV_told (w : List Nat) : inV (.str (tx w)) (toldW.map fun l => V.str (tx l)) = told w := by
  unfold inV told
  rw [Bool.eq_iff_iff, List.any_eq_true, decide_eq_true_iff]
  constructor
  · rintro ⟨y, hy, e⟩
    obtain ⟨l, hl, rfl⟩ := List.mem_map.mp hy
    have e2 : tx l = tx w := by simpa [eqV] using e
    rw [← tx_inj e2]; exact hl
  · intro h
    exact ⟨_, List.mem_map.mpr ⟨w, h, rfl⟩, by simp [eqV]⟩
section
variable {P : Program} {w : World} {K : PySem.W.Frag} {mg : Str → Option Value} {base : Heap} {f : Addr} {fd : FuncData} {f_in_long_word f_is_told : Addr} {d_in_long_word d_is_told : FuncData} {tw : Addr}
def spLong : Sp := fun vs H Q _ => ∃ c, vs = [.str (tx [c])] ∧ Q (.bl (long c)) H
theorem ok_in_long_word (F : Fun K "in_long_word" "in_long_word" s_in_long_word f fd) {t1 t2 : Tok} (m_LETTERS : mg "LETTERS" = some (.str "abcdefghijklmnopqrstuvwxyz" t1)) (m_FIGURES : mg "FIGURES" = some (.str "0123456789" t2)) : FnOk P w K mg base CX0 1 f fd ["sign"] spLong := by
  refine F.ok sc_in_long_word (fun vs H Q E h => ?_) (fun cdv A outer s H vs Q E hr h => ?_)
  · obtain ⟨c, rfl, _⟩ := h
    rfl
  obtain ⟨c, rfl, q⟩ := h
  refine ⟨_, (pss_one (ps_ret (pe_or (pe_cmpR op_in_str (pv 0) (pe_glob (v := .str "abcdefghijklmnopqrstuvwxyz") rfl m_LETTERS ⟨_, rfl⟩) rfl) (pe_one (pe_cmpR op_in_str (pv 0) (pe_glob (v := .str "0123456789") rfl m_FIGURES ⟨_, rfl⟩) rfl))))), ?_⟩
  refine ⟨_, rfl, _, _, rfl, rfl, _, rfl, ?_⟩
  rw [in_letters]
  unfold long at q
  cases hl : letter c with
  | true => rw [hl] at q; exact ifT rfl q
  | false =>
    rw [hl] at q
    refine ifF (by decide) ⟨_, rfl, _, _, rfl, rfl, ?_⟩
    rw [in_figures]
    exact q
def spTold : Sp := fun vs H Q _ => ∃ l, vs = [.str (tx l)] ∧ Q (.bl (told l)) H
theorem ok_is_told (F : Fun K "is_told" "is_told" s_is_told f fd) (TW : ∀ H : Hp, SqT K H tw (toldW.map fun l => V.str (tx l))) (m_TOLD_WORDS : mg "TOLD_WORDS" = some (.ref tw)) : FnOk P w K mg base CX0 1 f fd ["word"] spTold := by
  refine F.ok sc_is_told (fun vs H Q E h => ?_) (fun cdv A outer s H vs Q E hr h => ?_)
  · obtain ⟨c, rfl, _⟩ := h
    rfl
  obtain ⟨l, rfl, q⟩ := h
  refine ⟨_, (pss_one (ps_ret (pe_cmpR (kIn (K := K) (w := w)) (pv 0) (pe_glob (v := .ref _) rfl m_TOLD_WORDS rfl) rfl))), ?_⟩
  refine ⟨_, rfl, .inr (.inl ⟨tw, _, rfl, .inr (TW H), rfl, rfl, ?_⟩)⟩
  show Q (.bl (inV (.str (tx l)) _)) H
  rw [inV_told]
  exact q
end
end K10
set_option maxHeartbeats 4000000
namespace K10
open PySem L2
seal PE PT PW PA PS PSs PTs PI PG PGs PO
theorem dec_lt (k n : Nat) : decide ((k : Int) < (n : Int)) = decide (k < n) := by rw [decide_eq_decide]; omega
theorem cps_at {l : List Nat} {i c : Nat} (h : (tx l).cps[i]? = some c) : l[i]? = some c := by simpa using h
theorem at_tx {l : List Nat} {i c : Nat} (h : l[i]? = some c) : atI (tx l).cps.toList (i : Int) = some c := atI_nat h
theorem take_snoc {α : Type} {l : List α} {i : Nat} {c : α} (h : l[i]? = some c) : l.take (i + 1) = l.take i ++ [c] := by rw [List.take_add_one, h]; rfl
theorem map_all (l : List Nat) (p : Nat → Bool) : (l.map p).all id = l.all p := by
  induction l with
  | nil => rfl
  | cons c r ih => simp [ih]
section
variable {P : Program} {w : World} {K : PySem.W.Frag} {mg : Str → Option Value} {base : Heap} {f : Addr} {fd : FuncData} {f_in_long_word f_is_told : Addr} {d_in_long_word d_is_told : FuncData} {tw : Addr}
def spNum : Sp := fun vs H Q _ => ∃ l, vs = [.str (tx l)] ∧ l.length ≤ 4000 ∧ ∀ H', Same H H' → Q (.bl (isNum l)) H'
theorem ok_is_number (F : Fun K "is_number" "is_number" s_is_number f fd) (B : NoG mg) {t1 t2 : Tok} (m_LONGEST_NUMBER : mg "LONGEST_NUMBER" = some (.int 12 t1)) (m_FIGURES : mg "FIGURES" = some (.str "0123456789" t2)) : FnOk P w K mg base CX0 2 f fd ["word"] spNum := by
  refine F.ok sc_is_number (fun vs H Q E h => ?_) (fun cdv A outer s H vs Q E hr h => ?_)
  · obtain ⟨c, rfl, _⟩ := h
    rfl
  obtain ⟨l, rfl, hz, q⟩ := h
  have hu := hr.units0
  have hzl : (tx l).length ≤ sizeLine := by rw [tx_len]; exact Nat.le_trans hz (by decide)
  refine ⟨_, (pss_cons (ps_cut (ps_if (PW.pt (pw_or (pt_cmpR (kEq (K := K) hu) (pv 0) pe_str rfl) (pw_or1 (pt_cmpR op_gt (pe_callB (k_len (K := K)) rfl B.len_ bt_len (pa_cons (pv 0) pa_nil)) (pe_glob (v := .int 12) rfl m_LONGEST_NUMBER ⟨_, rfl⟩) rfl)))) (pss_one (ps_ret pe_bl)) pss_nil))
      (pss_one (ps_ret (pe_and (pe_callB (k_all (K := K) rfl) rfl B.all_ bt_all (pa_cons (pe_comp (CompScope.mk (N := ["word"]) (sc := defScope s_is_number) (caps := []) (ns := []) (by decide +kernel) rfl (by decide +kernel) rfl (by decide +kernel) rfl (by decide +kernel) (by decide +kernel)) rfl rfl rfl (pi_str (pv 0)) (fun _ _ _ _ _ => pts_nil) (fun _ _ _ _ _ => (pe_cmpR op_in_str (pv 0) (pe_glob (v := .str "0123456789") rfl m_FIGURES ⟨_, rfl⟩) rfl))) pa_nil)) (pe_one (pe_or (pe_cmpR (kNe (K := K) hu) (pe_ix ix_str (pv 0) pe_int (fun _ _ => rfl)) pe_str rfl) (pe_one (pe_cmpR (kEq (K := K) hu) (pv 0) pe_str rfl)))))))), ?_⟩
  refine ⟨fun σ' H' => σ' = [some (.str (tx l))] ∧ H = H' ∧ (decide (l = []) || decide (12 < l.length)) = false, ?_, ?_⟩
  · refine Dec.or (a := decide (l = [])) (b := decide (12 < l.length)) (fun Q hq => ⟨_, rfl, .inl ⟨rfl, _, rfl, by rw [eq_lit (l := []) (by decide)]; exact hq⟩⟩)
      (fun Q hq => ⟨_, rfl, _, l.length, rfl, ⟨hzl, (tx_len l).symm⟩, _, _, rfl, rfl, _, rfl, by rw [show decide ((12 : Int) < (l.length : Int)) = decide (12 < l.length) from dec_lt 12 l.length]; exact hq⟩) _ ?_
    · cases hb : (decide (l = []) || decide (12 < l.length)) with
      | true =>
        refine ifT rfl ?_
        have := q H .refl
        unfold isNum at this
        rw [hb] at this
        exact this
      | false => exact ifF (by decide) ⟨rfl, rfl, rfl⟩
  · rintro σ' H' ⟨rfl, rfl, hb⟩
    refine ⟨_, rfl, tx l, rfl, comp_str (z := tx l) (fun i ys H' => H = H' ∧ ys = (l.take i).map fun c => V.bl (figure c)) ⟨rfl, rfl⟩ ?_ ?_ ?_⟩
    · rintro i ys H' hi ⟨_, rfl⟩
      rw [List.length_map, List.length_take]
      have : (4000 : Nat) ≤ sizeLine := by decide
      omega
    · rintro i c ys H' hc ⟨rfl, rfl⟩
      refine noTest ?_
      refine ⟨_, rfl, _, _, rfl, rfl, rfl, ?_⟩
      rw [take_snoc (cps_at hc), List.map_append]
      show _ = _ ++ [V.bl (figure c)]
      rw [← in_figures c]
    · rintro ys H' ⟨rfl, rfl⟩ D hD
      have hbs : (List.map (fun c => V.bl (figure c)) (List.take (tx l).length l)) = (l.map figure).map V.bl := by
        rw [tx_len, List.take_length, List.map_map]; rfl
      rw [hbs]
      refine ⟨D, l.map figure, rfl, SqL.of upd_same, _, rfl, ?_⟩
      rw [map_all]
      have q1 := q _ (same_new hD (.lst ((l.map figure).map V.bl)))
      unfold isNum at q1
      rw [hb] at q1
      cases l with
      | nil => simp at hb
      | cons c r =>
        cases ha : (c :: r).all figure with
        | false => rw [ha] at q1; exact ifF (by decide) q1
        | true =>
          rw [ha] at q1
          refine ifT rfl ?_
          refine ⟨_, rfl, tx (c :: r), 0, c, rfl, rfl, hzl, at_tx (i := 0) rfl, ?_⟩
          refine .inl ⟨rfl, _, rfl, ?_⟩
          have e1 : (!decide (V.str ⟨#[c]⟩ = V.str (Str.ofString "0"))) = !decide ((c :: r).head? = some 48) := by
            have := eq_lit (s := "0") (l := [48]) (w := [c]) (by decide)
            rw [show V.str ⟨#[c]⟩ = V.str (tx [c]) from rfl, this]
            simp
          rw [e1]
          cases h48 : (!decide ((c :: r).head? = some 48)) with
          | true => rw [h48] at q1; exact ifT rfl q1
          | false =>
            rw [h48] at q1
            refine ifF (by decide) ⟨_, rfl, .inl ⟨rfl, ?_⟩⟩
            rw [eq_lit (l := [48]) (by decide)]
            exact q1
def spName : Sp := fun vs H Q _ => ∃ l, vs = [.str (tx l)] ∧ l.length ≤ 4000 ∧ ∀ H', Same H H' → Q (.bl (isName l)) H'
theorem ok_is_name (F : Fun K "is_name" "is_name" s_is_name f fd) (B : NoG mg) {t1 t2 : Tok} (m_LONGEST_NAME : mg "LONGEST_NAME" = some (.int 8 t1)) (m_LETTERS : mg "LETTERS" = some (.str "abcdefghijklmnopqrstuvwxyz" t2))
    (G_in_long_word : FnOk P w K mg base CX0 1 f_in_long_word d_in_long_word ["sign"] spLong) (b_in_long_word : Binds K d_in_long_word ["sign"] []) (k_in_long_word : PySem.W.keepIn K (.ref f_in_long_word) = true) (m_in_long_word : mg "in_long_word" = some (.ref f_in_long_word))
    (G_is_told : FnOk P w K mg base CX0 1 f_is_told d_is_told ["word"] spTold) (b_is_told : Binds K d_is_told ["word"] []) (k_is_told : PySem.W.keepIn K (.ref f_is_told) = true) (m_is_told : mg "is_told" = some (.ref f_is_told)) : FnOk P w K mg base CX0 2 f fd ["word"] spName := by
  refine F.ok sc_is_name (fun vs H Q E h => ?_) (fun cdv A outer s H vs Q E hr h => ?_)
  · obtain ⟨c, rfl, _⟩ := h
    rfl
  obtain ⟨l, rfl, hz, q⟩ := h
  have hu := hr.units0
  have hzl : (tx l).length ≤ sizeLine := by rw [tx_len]; exact Nat.le_trans hz (by decide)
  refine ⟨_, (pss_cons (ps_cut (ps_if (PW.pt (pw_or (pt_cmpR (kEq (K := K) hu) (pv 0) pe_str rfl) (pw_or (pt_cmpR op_gt (pe_callB (k_len (K := K)) rfl B.len_ bt_len (pa_cons (pv 0) pa_nil)) (pe_glob (v := .int 8) rfl m_LONGEST_NAME ⟨_, rfl⟩) rfl) (pw_or1 (k_truth (K := K) (pe_call G_is_told (hr.mono (by first | decide | omega)) rfl m_is_told k_is_told b_is_told .nil pass0 (pa_cons (pv 0) pa_nil)) (fun _ => rfl)))))) (pss_one (ps_ret pe_bl)) pss_nil))
      (pss_one (ps_ret (pe_and (pe_cmpR op_in_str (pe_ix ix_str (pv 0) pe_int (fun _ _ => rfl)) (pe_glob (v := .str "abcdefghijklmnopqrstuvwxyz") rfl m_LETTERS ⟨_, rfl⟩) rfl) (pe_one (pe_callB (k_all (K := K) rfl) rfl B.all_ bt_all (pa_cons (pe_comp (CompScope.mk (N := ["word"]) (sc := defScope s_is_name) (caps := []) (ns := []) (by decide +kernel) rfl (by decide +kernel) rfl (by decide +kernel) rfl (by decide +kernel) (by decide +kernel)) rfl rfl rfl (pi_str (pv 0)) (fun _ _ _ _ _ => pts_nil) (fun _ _ _ _ _ => (pe_call G_in_long_word (hr.mono (by first | decide | omega)) rfl m_in_long_word k_in_long_word b_in_long_word .nil pass0 (pa_cons (pv 0) pa_nil)))) pa_nil))))))), ?_⟩
  refine ⟨fun σ' H' => σ' = [some (.str (tx l))] ∧ H = H' ∧ (decide (l = []) || decide (8 < l.length) || told l) = false, ?_, ?_⟩
  · rw [Bool.or_assoc]
    refine Dec.or (a := decide (l = [])) (b := decide (8 < l.length) || told l) (fun Q hq => ⟨_, rfl, .inl ⟨rfl, _, rfl, by rw [eq_lit (l := []) (by decide)]; exact hq⟩⟩)
      (Dec.or (a := decide (8 < l.length)) (b := told l) (fun Q hq => ⟨_, rfl, _, l.length, rfl, ⟨hzl, (tx_len l).symm⟩, _, _, rfl, rfl, _, rfl, by rw [show decide ((8 : Int) < (l.length : Int)) = decide (8 < l.length) from dec_lt 8 l.length]; exact hq⟩)
        (fun Q hq => ⟨_, rfl, l, rfl, told l, rfl, hq⟩)) _ ?_
    rw [← Bool.or_assoc]
    cases hb : (decide (l = []) || decide (8 < l.length) || told l) with
    | true =>
      refine ifT rfl ?_
      have := q H .refl
      unfold isName at this
      rw [hb] at this
      exact this
    | false => exact ifF (by decide) ⟨rfl, rfl, rfl⟩
  · rintro σ' H' ⟨rfl, rfl, hb⟩
    cases l with
    | nil => simp at hb
    | cons c r =>
      refine ⟨_, rfl, tx (c :: r), 0, c, rfl, rfl, hzl, at_tx (i := 0) rfl, _, _, rfl, rfl, _, rfl, ?_⟩
      rw [in_letters]
      have q0 := q H .refl
      unfold isName at q0
      rw [hb] at q0
      have e0 : (c :: r).head?.elim false letter = letter c := rfl
      rw [e0] at q0
      cases hlt : letter c with
      | false => rw [hlt] at q0; exact ifF (by decide) q0
      | true =>
        refine ifT rfl ?_
        refine ⟨_, rfl, tx (c :: r), rfl, comp_str (z := tx (c :: r)) (fun i ys H' => H = H' ∧ ys = ((c :: r).take i).map fun c => V.bl (long c)) ⟨rfl, rfl⟩ ?_ ?_ ?_⟩
        · rintro i ys H' hi ⟨_, rfl⟩
          rw [List.length_map, List.length_take]
          have : (4000 : Nat) ≤ sizeLine := by decide
          omega
        · rintro i d ys H' hc ⟨rfl, rfl⟩
          refine noTest ?_
          refine ⟨_, rfl, d, rfl, rfl, ?_⟩
          rw [take_snoc (cps_at hc), List.map_append]
          rfl
        · rintro ys H' ⟨rfl, rfl⟩ D hD
          have hbs : (List.map (fun c => V.bl (long c)) (List.take (tx (c :: r)).length (c :: r))) = ((c :: r).map long).map V.bl := by
            rw [tx_len, List.take_length, List.map_map]; rfl
          rw [hbs]
          refine ⟨D, (c :: r).map long, rfl, SqL.of upd_same, ?_⟩
          rw [map_all]
          have q1 := q _ (same_new hD (.lst (((c :: r).map long).map V.bl)))
          unfold isName at q1
          rw [hb, e0, hlt] at q1
          exact q1
end
end K10
set_option maxHeartbeats 4000000
namespace K10
open PySem L2
seal PE PT PW PA PS PSs PTs PI PG PGs PO
abbrev s_words : Stmt := top 18
abbrev s_word_from : Stmt := top 19
abbrev s_long_word_from : Stmt := top 21
theorem sc_words : FnScope ["text", "found", "place", "word"] ["text"] (defScope s_words) := ⟨rfl, rfl, rfl, by decide +kernel, rfl, by decide +kernel, by decide +kernel⟩
theorem sc_word_from : FnScope ["text", "place", "sign"] ["text", "place"] (defScope s_word_from) := ⟨rfl, rfl, rfl, by decide +kernel, rfl, by decide +kernel, by decide +kernel⟩
theorem sc_long_word_from : FnScope ["text", "place", "end", "word"] ["text", "place"] (defScope s_long_word_from) := ⟨rfl, rfl, rfl, by decide +kernel, rfl, by decide +kernel, by decide +kernel⟩
theorem letter_figure {c : Nat} (h : letter c = true) : figure c = false := by
  have h := of_decide_eq_true h
  simp only [List.mem_cons, List.not_mem_nil, or_false] at h
  rcases h with rfl | rfl | rfl | rfl | rfl | rfl | rfl | rfl | rfl | rfl | rfl | rfl | rfl | rfl | rfl | rfl | rfl | rfl | rfl | rfl | rfl | rfl | rfl | rfl | rfl | rfl <;> decide
theorem told_head {w : List Nat} (h : told w = true) : w.length ≤ 8 ∧ ∃ c r, w = c :: r ∧ letter c = true := by
  have h := of_decide_eq_true h
  simp only [toldW, List.mem_cons, List.not_mem_nil, or_false] at h
  rcases h with rfl | rfl | rfl | rfl | rfl | rfl | rfl | rfl | rfl | rfl | rfl | rfl | rfl <;> exact ⟨by decide, _, _, rfl, by decide⟩
theorem good_is {w : List Nat} (hn : w ≠ []) (hl : w.all long = true) : good w = (isNum w || told w || isName w) := by
  cases w with
  | nil => exact absurd rfl hn
  | cons c r =>
    have hlc : long c = true := by simp at hl; exact hl.1
    have eg : good (c :: r) = if figure c then (c :: r).all figure && decide ((c :: r).length ≤ 12) && (decide (c :: r = [48]) || !decide (c = 48)) else decide ((c :: r).length ≤ 8) := rfl
    rw [eg]
    cases hf : figure c with
    | true =>
      have hnl : letter c = false := by
        cases h : letter c with
        | false => rfl
        | true => rw [letter_figure h] at hf; cases hf
      have h2 : told (c :: r) = false := by
        cases h : told (c :: r) with
        | false => rfl
        | true =>
          obtain ⟨_, d, s, e, hd⟩ := told_head h
          cases e
          rw [hd] at hnl; cases hnl
      have h3 : isName (c :: r) = false := by unfold isName; simp [hnl]
      rw [h2, h3, Bool.or_false, Bool.or_false, if_pos rfl]
      unfold isNum
      have e1 : (!(decide (c :: r = []) || decide (12 < (c :: r).length))) = decide ((c :: r).length ≤ 12) := by
        rw [Bool.eq_iff_iff]; simp
      rw [e1]
      have e2 : decide ((c :: r).head? = some 48) = decide (c = 48) := by rw [decide_eq_decide]; simp
      rw [e2]
      cases (c :: r).all figure <;> cases decide ((c :: r).length ≤ 12) <;> cases decide (c = 48) <;> cases decide (c :: r = [48]) <;> rfl
    | false =>
      have hl1 : letter c = true := by unfold long at hlc; rw [hf, Bool.or_false] at hlc; exact hlc
      have h1 : isNum (c :: r) = false := by unfold isNum; simp [hf]
      rw [h1, Bool.false_or, if_neg (by simp)]
      cases ht : told (c :: r) with
      | true =>
        have := (told_head ht).1
        simp only [Bool.true_or, decide_eq_true_iff]
        exact this
      | false =>
        unfold isName
        rw [ht, hl]
        have e : (c :: r).head?.elim false letter = true := hl1
        rw [e]
        rw [Bool.eq_iff_iff]; simp
theorem run_take {t : List Nat} {n : Nat} (h : (t.take n).all long = true) (hs : ∀ c, t[n]? = some c → long c = false) : t.takeWhile long = t.take n := by
  induction t generalizing n with
  | nil => simp
  | cons c r ih =>
    cases n with
    | zero =>
      have := hs c rfl
      simp [this]
    | succ n =>
      simp only [List.take_succ_cons, List.all_cons, Bool.and_eq_true] at h
      rw [List.takeWhile_cons_of_pos h.1, List.take_succ_cons, ih h.2 (fun d hd => hs d (by simpa using hd))]
section
variable {P : Program} {w : World} {K : PySem.W.Frag} {mg : Str → Option Value} {base : Heap} {f : Addr} {fd : FuncData} {f_in_long_word f_is_told f_is_number f_is_name f_long_word_from f_word_from : Addr} {d_in_long_word d_is_told d_is_number d_is_name d_long_word_from d_word_from : FuncData} {tw cT : Addr}
def spLW (cT : Addr) : Sp := fun vs H Q E => ∃ (l : List Nat) (i : Nat), vs = [.str (tx l), .int i] ∧ i < l.length ∧ l.length ≤ 4000 ∧ (∀ c ∈ l, c < 16 ^ 8) ∧ (∀ c, l[i]? = some c → long c = true) ∧
  ∀ H', Same H H' → if good ((l.drop i).takeWhile long) then Q (.str (tx ((l.drop i).takeWhile long))) H' else E (.ref cT) none H'
theorem ok_long_word_from (F : Fun K "long_word_from" "long_word_from" s_long_word_from f fd) (B : NoG mg) (X_BadText : XCls K mg "BadText" cT)
    (G_in_long_word : FnOk P w K mg base CX0 1 f_in_long_word d_in_long_word ["sign"] spLong) (b_in_long_word : Binds K d_in_long_word ["sign"] []) (k_in_long_word : PySem.W.keepIn K (.ref f_in_long_word) = true) (m_in_long_word : mg "in_long_word" = some (.ref f_in_long_word))
    (G_is_told : FnOk P w K mg base CX0 1 f_is_told d_is_told ["word"] spTold) (b_is_told : Binds K d_is_told ["word"] []) (k_is_told : PySem.W.keepIn K (.ref f_is_told) = true) (m_is_told : mg "is_told" = some (.ref f_is_told))
    (G_is_number : FnOk P w K mg base CX0 2 f_is_number d_is_number ["word"] spNum) (b_is_number : Binds K d_is_number ["word"] []) (k_is_number : PySem.W.keepIn K (.ref f_is_number) = true) (m_is_number : mg "is_number" = some (.ref f_is_number))
    (G_is_name : FnOk P w K mg base CX0 2 f_is_name d_is_name ["word"] spName) (b_is_name : Binds K d_is_name ["word"] []) (k_is_name : PySem.W.keepIn K (.ref f_is_name) = true) (m_is_name : mg "is_name" = some (.ref f_is_name)) :
    FnOk P w K mg base (CXr P w) 3 f fd ["text", "place"] (spLW cT) := by
  refine F.okX sc_long_word_from (fun vs H Q E h => ?_) (fun cdv A outer s H vs Q E hr h => ?_)
  · obtain ⟨l, i, rfl, _⟩ := h
    rfl
  obtain ⟨l, i, rfl, hi, hz, hc8, hli, q⟩ := h
  have nd := sc_long_word_from.nd
  have hu := hr.units0
  have hzl : (tx l).length ≤ sizeLine := by rw [tx_len]; exact Nat.le_trans hz (by decide)
  refine ⟨_, (pss_cons (ps_set (i := 2) nd rfl (Or.inl rfl) (pv 1))
      (pss_cons (ps_cut (ps_while PassesOwn.leaving (PW.pt (pw_and (pt_cmpR op_lt (pv 2) (pe_callB (k_len (K := K)) rfl B.len_ bt_len (pa_cons (pv 0) pa_nil)) rfl) (pw_and1 (k_truth (K := K) (pe_call G_in_long_word (hr.mono (by first | decide | omega)) rfl m_in_long_word k_in_long_word b_in_long_word .nil pass0 (pa_cons (pe_ix ix_str (pv 0) (pv 2) (fun _ _ => rfl)) pa_nil)) (fun _ => rfl))))) (pss_one (ps_aug (i := 2) nd rfl (Or.inl rfl) pe_int ip_add))))
      (pss_cons (ps_set (i := 3) nd rfl (Or.inl rfl) (pe_slice sl_str (pv 0) (po_some (pv 1)) (po_some (pv 2))))
      (pss_cons (ps_cut (ps_if (PW.pt (pw_and (pt_not (k_truth (K := K) (pe_call G_is_number (hr.mono (by first | decide | omega)) rfl m_is_number k_is_number b_is_number .nil pass0 (pa_cons (pv 3) pa_nil)) (fun _ => rfl))) (pw_and (pt_not (k_truth (K := K) (pe_call G_is_told (hr.mono (by first | decide | omega)) rfl m_is_told k_is_told b_is_told .nil pass0 (pa_cons (pv 3) pa_nil)) (fun _ => rfl))) (pw_and1 (pt_not (k_truth (K := K) (pe_call G_is_name (hr.mono (by first | decide | omega)) rfl m_is_name k_is_name b_is_name .nil pass0 (pa_cons (pv 3) pa_nil)) (fun _ => rfl))))))) (pss_one (ps_raise PySem.F.excBase_ValueError (by decide) X_BadText.q rfl X_BadText.m (pa_cons (pe_fstr (pj_cons (pp_repr (pv 3)) (pj_cons (pp_str (by decide)) pj_nil))) pa_nil))) pss_nil))
      (pss_one (ps_ret (pv 3))))))), ?_⟩
  refine ⟨_, rfl, ?_⟩
  refine ⟨fun σ' H' => ∃ e : Nat, σ' = [some (.str (tx l)), some (.int i), some (.int e), none] ∧ H = H' ∧ i ≤ e ∧ e ≤ l.length ∧ (l.drop i).takeWhile long = (l.drop i).take (e - i), ?_, ?_⟩
  · refine ⟨fun m σ H' => ∃ (e : Nat), σ = [some (.str (tx l)), some (.int i), some (.int e), none] ∧ H = H' ∧ i ≤ e ∧ e ≤ l.length ∧ ((l.drop i).take (e - i)).all long = true ∧ m = l.length - e,
      ⟨l.length - i, i, rfl, rfl, Nat.le_refl _, Nat.le_of_lt hi, by simp, rfl⟩, ?_⟩
    rintro m σ H' ⟨e, rfl, rfl, hie, hel, hall, rfl⟩
    have done : (∀ c, l[e]? = some c → long c = false) → (l.drop i).takeWhile long = (l.drop i).take (e - i) := fun hs =>
      run_take hall (fun c hc => hs c (by rw [List.getElem?_drop] at hc; rw [← hc]; congr 1; omega))
    refine ⟨_, rfl, _, rfl, _, l.length, rfl, ⟨hzl, (tx_len l).symm⟩, _, _, rfl, rfl, _, rfl, ?_⟩
    rw [dec_lt]
    by_cases he : e < l.length
    · rw [decide_eq_true he]
      refine ifT rfl ?_
      have hce : l[e]? = some l[e] := List.getElem?_eq_getElem he
      refine ⟨_, rfl, _, rfl, tx l, e, l[e], rfl, rfl, hzl, at_tx hce, l[e], rfl, _, rfl, ?_⟩
      cases hlg : long l[e] with
      | false => exact ifF (by decide) ⟨e, rfl, rfl, hie, hel, done fun c hc => by rw [hce] at hc; cases hc; exact hlg⟩
      | true =>
        refine ifT rfl ⟨_, fun _ _ h => h, ?_⟩
        refine ⟨_, rfl, _, _, rfl, rfl, l.length - (e + 1), by omega, e + 1, rfl, rfl, by omega, he, ?_, rfl⟩
        have e1 : e + 1 - i = (e - i) + 1 := by omega
        have e2 : (l.drop i)[e - i]? = some l[e] := by rw [List.getElem?_drop, ← hce]; congr 1; omega
        rw [e1, take_snoc e2, List.all_append, hall]
        simp [hlg]
    · rw [decide_eq_false he]
      refine ifF (by decide) ?_
      exact ifF (by decide) ⟨e, rfl, rfl, hie, hel, done fun c hc => by rw [List.getElem?_eq_none (by omega)] at hc; cases hc⟩
  · rintro σ' H' ⟨e, rfl, rfl, hie, hel, hrun⟩
    refine ⟨_, rfl, _, rfl, _, rfl, _, rfl, _, rfl, tx l, rfl, hzl, ?_⟩
    rw [slice_lo_hi hie (Nat.le_of_lt hi), ← hrun]
    have hwl : ((l.drop i).takeWhile long).length ≤ 4000 := Nat.le_trans (List.takeWhile_sublist _).length_le (by rw [List.length_drop]; omega)
    have hw0 : (l.drop i).takeWhile long ≠ [] := by
      have hd : l.drop i = l[i] :: l.drop (i + 1) := List.drop_eq_getElem_cons hi
      rw [hd, List.takeWhile_cons_of_pos (hli _ (List.getElem?_eq_getElem hi))]
      simp
    have hwa : ((l.drop i).takeWhile long).all long = true := List.all_takeWhile
    have hw8 : ∀ c ∈ (l.drop i).takeWhile long, c < 16 ^ 8 := fun c hc => hc8 c (List.mem_of_mem_drop ((List.takeWhile_sublist _).subset hc))
    have hg := good_is hw0 hwa
    revert hwl hw8 hg q
    generalize (l.drop i).takeWhile long = w
    intro q hwl hw8 hg
    have hwz : (reprText (tx w)).length ≤ 1000000 := Nat.le_trans (repr_short hw8) (by omega)
    refine ⟨fun σ' H' => σ' = [some (.str (tx l)), some (.int i), some (.int e), some (.str (tx w))] ∧ Same H H' ∧ good w = true, ?_, ?_⟩
    · refine ⟨_, rfl, w, rfl, hwl, fun H1 s1 => ⟨_, rfl, ?_⟩⟩
      cases h1 : isNum w with
      | true => exact ifF (by decide) (ifF (by decide) ⟨rfl, s1, by rw [hg, h1]; rfl⟩)
      | false =>
        refine ifT (by decide) ⟨_, rfl, w, rfl, _, rfl, ?_⟩
        cases h2 : told w with
        | true => exact ifF (by decide) (ifF (by decide) ⟨rfl, s1, by rw [hg, h1, h2]; rfl⟩)
        | false =>
          refine ifT (by decide) ⟨_, rfl, w, rfl, hwl, fun H2 s2 => ⟨_, rfl, ?_⟩⟩
          cases h3 : isName w with
          | true => exact ifF (by decide) ⟨rfl, s1.trans s2, by rw [hg, h1, h2, h3]; rfl⟩
          | false =>
            refine ifT (by decide) ⟨_, rfl, tx w, rfl, hwz, fun z hz => ⟨by show 1 ≤ sizeLine; decide, ?_⟩⟩
            have := q H2 (s1.trans s2)
            rw [hg, h1, h2, h3] at this
            exact this
    · rintro σ' H' ⟨rfl, sm, gw⟩
      refine ⟨_, rfl, ?_⟩
      have := q H' sm
      rw [gw] at this
      exact this
end
end K10
set_option maxHeartbeats 4000000
namespace K10
open PySem L2
seal PE PT PW PA PS PSs PTs PI PG PGs PO
theorem in_marks (c : Nat) : (!(Builtin.Str.occurrences (Str.ofString "(),=+-*/<:![]") (tx [c]) 0 (Str.ofString "(),=+-*/<:![]").length 1).isEmpty) = mark c := in_lit (by decide +kernel) c
theorem in_gaps (c : Nat) : (!(Builtin.Str.occurrences (Str.ofString " \t\n") (tx [c]) 0 (Str.ofString " \t\n").length 1).isEmpty) = gap c := in_lit (by decide +kernel) c
theorem wordAt_le {t w : List Nat} (h : wordAt t = some w) : w.length ≤ t.length := by
  cases t with
  | nil => cases h
  | cons c r =>
    rw [wordAt_cons] at h
    split at h
    · split at h
      · cases h; exact (List.takeWhile_sublist _).length_le
      · cases h
    · split at h
      · rename_i h2
        cases h
        have := congrArg List.length h2
        rw [List.length_take] at this
        simp only [List.length_cons, List.length_nil] at this ⊢
        omega
      · split at h
        · cases h; simp
        · cases h
section
variable {P : Program} {w : World} {K : PySem.W.Frag} {mg : Str → Option Value} {base : Heap} {f : Addr} {fd : FuncData} {f_in_long_word f_long_word_from f_word_from : Addr} {d_in_long_word d_long_word_from d_word_from : FuncData} {cT : Addr}
def spWF (cT : Addr) : Sp := fun vs H Q E => ∃ (l : List Nat) (i : Nat), vs = [.str (tx l), .int i] ∧ i < l.length ∧ l.length ≤ 4000 ∧ (∀ c ∈ l, c < 16 ^ 8) ∧
  ∀ H', Same H H' → (∀ x, wordAt (l.drop i) = some x → Q (.str (tx x)) H') ∧ (wordAt (l.drop i) = none → E (.ref cT) none H')
theorem ok_word_from (F : Fun K "word_from" "word_from" s_word_from f fd) (B : NoG mg) (X_BadText : XCls K mg "BadText" cT) {t1 : Tok} (m_MARKS : mg "MARKS" = some (.str "(),=+-*/<:![]" t1))
    (G_in_long_word : FnOk P w K mg base CX0 1 f_in_long_word d_in_long_word ["sign"] spLong) (b_in_long_word : Binds K d_in_long_word ["sign"] []) (k_in_long_word : PySem.W.keepIn K (.ref f_in_long_word) = true) (m_in_long_word : mg "in_long_word" = some (.ref f_in_long_word))
    (G_long_word_from : FnOk P w K mg base (CXr P w) 3 f_long_word_from d_long_word_from ["text", "place"] (spLW cT)) (b_long_word_from : Binds K d_long_word_from ["text", "place"] []) (k_long_word_from : PySem.W.keepIn K (.ref f_long_word_from) = true) (m_long_word_from : mg "long_word_from" = some (.ref f_long_word_from)) :
    FnOk P w K mg base (CXr P w) 4 f fd ["text", "place"] (spWF cT) := by
  refine F.okX sc_word_from (fun vs H Q E h => ?_) (fun cdv A outer s H vs Q E hr h => ?_)
  · obtain ⟨l, i, rfl, _⟩ := h
    rfl
  obtain ⟨l, i, rfl, hi, hz, hc8, q⟩ := h
  have nd := sc_word_from.nd
  have hu := hr.units0
  have hzl : (tx l).length ≤ sizeLine := by rw [tx_len]; exact Nat.le_trans hz (by decide)
  have hce : l[i]? = some l[i] := List.getElem?_eq_getElem hi
  have hd : l.drop i = l[i] :: l.drop (i + 1) := List.drop_eq_getElem_cons hi
  have hwa := wordAt_cons l[i] (l.drop (i + 1))
  rw [← hd] at hwa
  refine ⟨_, (pss_cons (ps_set (i := 2) nd rfl (Or.inl rfl) (pe_ix ix_str (pv 0) (pv 1) (fun _ _ => rfl)))
      (pss_cons (ps_if (k_truth (K := K) (pe_call G_in_long_word (hr.mono (by first | decide | omega)) rfl m_in_long_word k_in_long_word b_in_long_word .nil pass0 (pa_cons (pv 2) pa_nil)) (fun _ => rfl)) (pss_one (ps_ret (pe_call G_long_word_from (hr.mono (by first | decide | omega)) rfl m_long_word_from k_long_word_from b_long_word_from .nil pass_out (pa_cons (pv 0) (pa_cons (pv 1) pa_nil))))) pss_nil)
      (pss_cons (ps_if (pt_cmpR (kEq (K := K) hu) (pe_slice sl_str (pv 0) (po_some (pv 1)) (po_some (pe_op uAdd (pv 1) pe_int))) pe_str rfl) (pss_one (ps_ret pe_str)) pss_nil)
      (pss_cons (ps_if (pt_cmpR op_in_str (pv 2) (pe_glob (v := .str "(),=+-*/<:![]") rfl m_MARKS ⟨_, rfl⟩) rfl) (pss_one (ps_ret (pv 2))) pss_nil)
      (pss_one (ps_raise PySem.F.excBase_ValueError (by decide) X_BadText.q rfl X_BadText.m (pa_cons (pe_fstr (pj_cons (pp_str (by decide)) (pj_cons (pp_repr (pv 2)) pj_nil))) pa_nil))))))), ?_⟩
  refine ⟨_, rfl, _, rfl, tx l, i, l[i], rfl, rfl, hzl, at_tx hce, ?_⟩
  refine ⟨_, rfl, l[i], rfl, _, rfl, ?_⟩
  cases hlg : long l[i] with
  | true =>
    refine ifT rfl ⟨_, rfl, _, rfl, l, i, rfl, hi, hz, hc8, fun c hc => by rw [hce] at hc; cases hc; exact hlg, fun H' sm => ?_⟩
    obtain ⟨q1, q2⟩ := q H' sm
    rw [if_pos hlg] at hwa
    split
    · rename_i hg
      rw [if_pos hg] at hwa
      exact q1 _ hwa
    · rename_i hg
      rw [if_neg hg] at hwa
      exact q2 hwa
  | false =>
    refine ifF (by decide) ?_
    obtain ⟨q1, q2⟩ := q H .refl
    rw [if_neg (by rw [hlg]; decide)] at hwa
    refine ⟨_, rfl, _, rfl, _, rfl, _, rfl, .inl ⟨_, _, rfl, rfl, _, rfl, tx l, rfl, hzl, .inl ⟨rfl, _, rfl, ?_⟩⟩⟩
    have es : Txt.slice (tx l) (some (i : Int)) (some ((i : Int) + 2)) = tx ((l.drop i).take 2) := by
      have := slice_lo_hi (l := l) (a := i) (b := i + 2) (by omega) (Nat.le_of_lt hi)
      rw [show i + 2 - i = 2 by omega] at this
      exact this
    rw [es, eq_lit (l := [61, 62]) (by decide +kernel)]
    by_cases h2 : (l.drop i).take 2 = [61, 62]
    · rw [if_pos h2] at hwa
      rw [decide_eq_true h2]
      exact ifT rfl (q1 _ hwa)
    · rw [if_neg h2] at hwa
      rw [decide_eq_false h2]
      refine ifF (by decide) ⟨_, rfl, _, _, rfl, rfl, _, rfl, ?_⟩
      rw [in_marks]
      cases hm : mark l[i] with
      | true =>
        rw [if_pos hm] at hwa
        exact ifT rfl ⟨_, rfl, q1 _ hwa⟩
      | false =>
        rw [if_neg (by rw [hm]; decide)] at hwa
        have hr1 : (reprText (tx [l[i]])).length ≤ 1000000 := Nat.le_trans (repr_short (fun c hc => by
          have e : c = l[i] := by simpa using hc
          rw [e]; exact hc8 _ (List.getElem_mem hi))) (by simp)
        exact ifF (by decide) ⟨_, rfl, tx [l[i]], rfl, hr1, fun z hz => ⟨by show 1 ≤ sizeLine; decide, q2 hwa⟩⟩
def spWords (cT : Addr) : Sp := fun vs H Q E => ∃ (l : List Nat), vs = [.str (tx l)] ∧ l.length ≤ 100000 ∧ (∀ c ∈ l, c < 16 ^ 8) ∧
  ∀ H', Same H H' → (∀ ws r, l.length ≤ 4000 → words l = some ws → H r = none → H' r = some (.lst (ws.map fun x => V.str (tx x))) → Q (.ref r) H') ∧ ((4000 < l.length ∨ words l = none) → E (.ref cT) none H')
theorem ok_words (F : Fun K "words" "words" s_words f fd) (B : NoG mg) (X_BadText : XCls K mg "BadText" cT) {t1 t2 : Tok} (m_LONGEST_TEXT : mg "LONGEST_TEXT" = some (.int 4000 t1)) (m_GAPS : mg "GAPS" = some (.str " \t\n" t2))
    (G_word_from : FnOk P w K mg base (CXr P w) 4 f_word_from d_word_from ["text", "place"] (spWF cT)) (b_word_from : Binds K d_word_from ["text", "place"] []) (k_word_from : PySem.W.keepIn K (.ref f_word_from) = true) (m_word_from : mg "word_from" = some (.ref f_word_from)) :
    FnOk P w K mg base (CXr P w) 5 f fd ["text"] (spWords cT) := by
  refine F.okX sc_words (fun vs H Q E h => ?_) (fun cdv A outer s H vs Q E hr h => ?_)
  · obtain ⟨l, rfl, _⟩ := h
    rfl
  obtain ⟨l, rfl, hz, hc8, q⟩ := h
  have nd := sc_words.nd
  have hu := hr.units0
  have hzl : (tx l).length ≤ sizeLine := by rw [tx_len]; exact Nat.le_trans hz (by decide)
  refine ⟨_, (pss_cons (ps_if (pt_cmpR op_gt (pe_callB (k_len (K := K)) rfl B.len_ bt_len (pa_cons (pv 0) pa_nil)) (pe_glob (v := .int 4000) rfl m_LONGEST_TEXT ⟨_, rfl⟩) rfl) (pss_one (ps_raise PySem.F.excBase_ValueError (by decide) X_BadText.q rfl X_BadText.m (pa_cons (pe_fstr (pj_cons (pp_str (by decide)) (pj_cons (pp_int (pe_glob (v := .int 4000) rfl m_LONGEST_TEXT ⟨_, rfl⟩)) (pj_cons (pp_str (by decide)) pj_nil)))) pa_nil))) pss_nil)
      (pss_cons (ps_set (i := 1) nd rfl (Or.inl rfl) (pe_lst pa_nil))
      (pss_cons (ps_set (i := 2) nd rfl (Or.inl rfl) pe_int)
      (pss_cons (ps_cut (ps_while PassesOwn.leaving (pt_cmpR op_lt (pv 2) (pe_callB (k_len (K := K)) rfl B.len_ bt_len (pa_cons (pv 0) pa_nil)) rfl) (pss_one (ps_cut (ps_if (pt_cmpR op_in_str (pe_ix ix_str (pv 0) (pv 2) (fun _ _ => rfl)) (pe_glob (v := .str " \t\n") rfl m_GAPS ⟨_, rfl⟩) rfl) (pss_one (ps_aug (i := 2) nd rfl (Or.inl rfl) pe_int ip_add)) (pss_cons (ps_set (i := 3) nd rfl (Or.inl rfl) (pe_call G_word_from (hr.mono (by first | decide | omega)) rfl m_word_from k_word_from b_word_from .nil pass_out (pa_cons (pv 0) (pa_cons (pv 2) pa_nil))))
      (pss_cons (ps_expr (k_bm (K := K) PySem.F.plainAttrs_list PySem.F.slot_list_append PySem.F.type_list_append mt_append (pv 1) (pa_cons (pv 3) pa_nil)))
      (pss_one (ps_aug (i := 2) nd rfl (Or.inl rfl) (pe_callB (k_len (K := K)) rfl B.len_ bt_len (pa_cons (pv 3) pa_nil)) ip_add)))))))))
      (pss_one (ps_ret (pv 1))))))), ?_⟩
  refine ⟨_, rfl, _, l.length, rfl, ⟨hzl, (tx_len l).symm⟩, _, _, rfl, rfl, _, rfl, ?_⟩
  rw [show decide ((4000 : Int) < (l.length : Int)) = decide (4000 < l.length) from dec_lt 4000 l.length]
  by_cases h4 : 4000 < l.length
  · rw [decide_eq_true h4]
    exact ifT rfl ⟨4000, rfl, by decide, by decide +kernel, fun z hz => ⟨by show 1 ≤ sizeLine; decide, (q H .refl).2 (.inl h4)⟩⟩
  rw [decide_eq_false h4]
  have h4 : l.length ≤ 4000 := by omega
  refine ifF (by decide) ⟨(by show 0 ≤ sizeLine; decide), fun r hr0 => ?_⟩
  refine ⟨fun σ' H' => ∃ ws z, σ' = [some (.str (tx l)), some (.ref r), some (.int l.length), z] ∧ Same H H' ∧ H' r = some (.lst (ws.map fun x => V.str (tx x))) ∧ words l = some ws, ?_, ?_⟩
  · refine ⟨fun m σ H' => ∃ (p : Nat) (acc : List (List Nat)) (z : Option V), σ = [some (.str (tx l)), some (.ref r), some (.int p), z] ∧ Same H H' ∧ H' r = some (.lst (acc.map fun x => V.str (tx x))) ∧ p ≤ l.length ∧ acc.length ≤ p ∧ words l = (words (l.drop p)).map (acc ++ ·) ∧ m = l.length - p,
      ⟨l.length, 0, [], none, rfl, same_new hr0 _, upd_same, Nat.zero_le _, Nat.le_refl _, by simp, rfl⟩, ?_⟩
    rintro m σ H' ⟨p, acc, z, rfl, sm, hrr, hp, hac, hws, rfl⟩
    refine ⟨_, rfl, _, rfl, _, l.length, rfl, ⟨hzl, (tx_len l).symm⟩, _, _, rfl, rfl, _, rfl, ?_⟩
    rw [dec_lt]
    by_cases hpl : p < l.length
    · rw [decide_eq_true hpl]
      have hce : l[p]? = some l[p] := List.getElem?_eq_getElem hpl
      have hd : l.drop p = l[p] :: l.drop (p + 1) := List.drop_eq_getElem_cons hpl
      refine ifT rfl ⟨_, fun _ _ h => h, ?_⟩
      refine ⟨_, ?_, fun _ _ h => h⟩
      refine ⟨_, rfl, _, rfl, tx l, p, l[p], rfl, rfl, hzl, at_tx hce, _, _, rfl, rfl, _, rfl, ?_⟩
      rw [in_gaps]
      cases hg : gap l[p] with
      | true =>
        refine ifT rfl ?_
        refine ⟨_, rfl, _, _, rfl, rfl, l.length - (p + 1), by omega, p + 1, acc, z, rfl, sm, hrr, hpl, by omega, ?_, rfl⟩
        rw [hws, hd, words_gap hg]
      | false =>
        refine ifF (by decide) ?_
        refine ⟨_, rfl, _, rfl, l, p, rfl, hpl, h4, hc8, fun H1 s1 => ⟨fun x hx => ?_, fun hx => ?_⟩⟩
        · have hx0 := wordAt_pos hx
          have hxl : p + x.length ≤ l.length := by
            have := wordAt_le hx
            rw [List.length_drop] at this
            omega
          rw [hd] at hx
          have hr1 := s1 _ _ hrr
          refine ⟨_, rfl, .inl ⟨rfl, _, SqL.of hr1⟩, _, rfl, r, _, _, rfl, rfl, hr1, ?_, ?_⟩
          · rw [List.length_map]; have : (4000 : Nat) < sizeLine := by decide
            omega
          · refine ⟨_, rfl, _, rfl, _, x.length, rfl, ⟨?_, (tx_len x).symm⟩, _, _, rfl, rfl, l.length - (p + x.length), by omega, p + x.length, acc ++ [x], _, rfl, fun b o e => ?_, ?_, hxl, by simp; omega, ?_, rfl⟩
            · rw [tx_len]; have : (4000 : Nat) ≤ sizeLine := by decide
              omega
            · rw [upd_ne (ne_of_none e hr0)]
              exact s1 _ _ (sm _ _ e)
            · rw [upd_same]; simp
            · rw [hws, hd, words_word hg hx, ← hd, List.drop_drop]
              cases words (l.drop (p + x.length)) <;> simp
        · rw [hd] at hx
          refine (q H1 (sm.trans s1)).2 (.inr ?_)
          rw [hws, hd, words_none hg hx]; rfl
    · rw [decide_eq_false hpl]
      have e : p = l.length := by omega
      subst e
      refine ifF (by decide) ⟨acc, z, rfl, sm, hrr, ?_⟩
      rw [hws, List.drop_length, words_nil]; simp
  · rintro σ' H' ⟨ws, z, rfl, sm, hrr, hws⟩
    exact ⟨_, rfl, (q H' sm).1 ws r h4 hws hr0 hrr⟩
end
end K10
namespace K15
open PySem L2
inductive Fo where
  | nil
  | cons (k r : Fo)
namespace Fo
def depth : Fo → Nat
  | .nil => 0
  | .cons k r => max (k.depth + 1) r.depth
def size : Fo → Nat
  | .nil => 0
  | .cons k r => k.size + 1 + r.size
def len : Fo → Nat
  | .nil => 0
  | .cons _ r => r.len + 1
def app : Fo → Fo → Fo
  | .nil, g => g
  | .cons k r, g => .cons k (r.app g)
def kids : Fo → Fo
  | .nil => .nil
  | .cons k r => k.app r.kids
theorem depth_app : ∀ f g : Fo, (f.app g).depth = max f.depth g.depth
  | .nil, g => by simp [app, depth]
  | .cons k r, g => by simp only [app, depth, depth_app r g]; omega
theorem size_app : ∀ f g : Fo, (f.app g).size = f.size + g.size
  | .nil, g => by simp [app, size]
  | .cons k r, g => by simp only [app, size, size_app r g]; omega
theorem app_nil : ∀ f : Fo, f.app .nil = f
  | .nil => rfl
  | .cons k r => by rw [app, app_nil r]
theorem app_assoc : ∀ f g h : Fo, (f.app g).app h = f.app (g.app h)
  | .nil, _, _ => rfl
  | .cons k r, g, h => by rw [app, app, app, app_assoc r g h]
theorem size_kids : ∀ f : Fo, f.size = f.len + f.kids.size
  | .nil => rfl
  | .cons k r => by simp only [size, len, kids, size_app, size_kids r]; omega
theorem depth_kids : ∀ f : Fo, (f = .nil ∧ f.depth = 0) ∨ f.depth = f.kids.depth + 1
  | .nil => .inl ⟨rfl, rfl⟩
  | .cons k r => by
    right
    simp only [depth, kids, depth_app]
    rcases depth_kids r with ⟨rfl, h⟩ | h
    · simp only [depth, kids]; omega
    · omega
theorem len_le : ∀ f : Fo, f.len ≤ f.size
  | .nil => Nat.le_refl _
  | .cons k r => by have := len_le r; simp only [size, len]; omega
end Fo
def Tups (H H' : Hp) : Prop := ∀ b xs, H b = some (.tup xs) → H' b = some (.tup xs)
theorem Tups.trans {H H1 H2 : Hp} (a : Tups H H1) (b : Tups H1 H2) : Tups H H2 := fun c xs h => b c xs (a c xs h)
theorem Tups.lst {H : Hp} {p : Addr} {xs : List V} (h : H p = some (.lst xs)) (o : HO) : Tups H (upd H p o) := fun b ys q => by
  rw [upd_ne (ne_of q h (by intro z; cases z))]; exact q
theorem tups_of {H H' : Hp} (h : Same H H') : Tups H H' := fun b xs q => h b _ q
inductive Shape (H : Hp) : List V → List V → Prop where
  | num (i : Int) : Shape H [.str "number", .int i] []
  | truth (b : Bool) : Shape H [.str "truth", .bl b] []
  | non : Shape H [.str "none"] []
  | name (x : Str) : Shape H [.str "name", .str x] []
  | call (x : Str) {c : Addr} {ps : List V} : H c = some (.tup ps) → Shape H [.str "call", .str x, .ref c] ps
  | one (x : Str) (a : Addr) : Shape H [.str "one", .str x, .ref a] [.ref a]
  | two (x : Str) (a b : Addr) : Shape H [.str "two", .str x, .ref a, .ref b] [.ref a, .ref b]
  | if_ (a b c : Addr) : Shape H [.str "if", .ref a, .ref b, .ref c] [.ref a, .ref b, .ref c]
  | let_ (x : Str) (a b : Addr) : Shape H [.str "let", .str x, .ref a, .ref b] [.ref a, .ref b]
  | fn (x : Str) (a : Addr) : Shape H [.str "fn", .str x, .ref a] [.ref a]
  | do_ (a b : Addr) : Shape H [.str "do", .ref a, .ref b] [.ref a, .ref b]
theorem Shape.mono {H H' : Hp} {xs ps : List V} (h : Shape H xs ps) (t : Tups H H') : Shape H' xs ps := by
  cases h with
  | num i => exact .num i
  | truth b => exact .truth b
  | non => exact .non
  | name x => exact .name x
  | call x hc => exact .call x (t _ _ hc)
  | one x a => exact .one x a
  | two x a b => exact .two x a b
  | if_ a b c => exact .if_ a b c
  | let_ x a b => exact .let_ x a b
  | fn x a => exact .fn x a
  | do_ a b => exact .do_ a b
inductive FAt (H : Hp) : List V → Fo → Prop where
  | nil : FAt H [] .nil
  | cons {a : Addr} {xs ps vs : List V} {k r : Fo} : H a = some (.tup xs) → Shape H xs ps → FAt H ps k → FAt H vs r → FAt H (.ref a :: vs) (.cons k r)
theorem FAt.mono {H H' : Hp} {vs : List V} {f : Fo} (h : FAt H vs f) (t : Tups H H') : FAt H' vs f := by
  induction h with
  | nil => exact .nil
  | cons ha hs _ _ ih1 ih2 => exact .cons (t _ _ ha) (hs.mono t) ih1 ih2
theorem FAt.app {H : Hp} {vs ws : List V} {f g : Fo} (h : FAt H vs f) (h' : FAt H ws g) : FAt H (vs ++ ws) (f.app g) := by
  induction h with
  | nil => exact h'
  | cons ha hs hk _ _ ih => exact .cons ha hs hk ih
theorem FAt.len {H : Hp} {vs : List V} {f : Fo} (h : FAt H vs f) : vs.length = f.len := by
  induction h with
  | nil => rfl
  | cons _ _ _ _ _ ih => simp only [List.length_cons, Fo.len, ih]
end K15
set_option maxHeartbeats 4000000
namespace K15
open PySem L2
seal PE PT PW PA PS PSs PTs PI PG PGs PO
def top (i : Nat) : Stmt := PySem.Challenge.pw_speakmill_k12_strengths.main.body.getD i (.Pass ⟨0, 0, 0, 0⟩)
abbrev s_parts_of : Stmt := top 5
abbrev s_depth_of : Stmt := top 6
abbrev s_size_of : Stmt := top 7
abbrev s_parts_of_all : Stmt := top 8
theorem sc_parts_of : FnScope ["term", "form"] ["term"] (defScope s_parts_of) := ⟨rfl, rfl, rfl, by decide +kernel, rfl, by decide +kernel, by decide +kernel⟩
theorem sc_depth_of : FnScope ["term", "depth", "level"] ["term"] (defScope s_depth_of) := ⟨rfl, rfl, rfl, by decide +kernel, rfl, by decide +kernel, by decide +kernel⟩
theorem sc_size_of : FnScope ["term", "size", "level"] ["term"] (defScope s_size_of) := ⟨rfl, rfl, rfl, by decide +kernel, rfl, by decide +kernel, by decide +kernel⟩
theorem sc_parts_of_all : FnScope ["terms", "found", "term"] ["terms"] (defScope s_parts_of_all) := ⟨rfl, rfl, rfl, by decide +kernel, rfl, by decide +kernel, by decide +kernel⟩
structure NoG (mg : Str → Option Value) : Prop where
  len_ : mg "len" = none
  max_ : mg "max" = none
  min_ : mg "min" = none
  isinstance_ : mg "isinstance" = none
  range_ : mg "range" = none
  list_ : mg "list" = none
  tuple_ : mg "tuple" = none
  int_ : mg "int" = none
  bool_ : mg "bool" = none
def PF : List (Str × V) := [("two", .int 2), ("one", .int 2), ("if", .int 1), ("let", .int 2), ("fn", .int 2), ("do", .int 1)]
theorem same_new {H : Hp} {p : Addr} (h : H p = none) (o : HO) : Same H (upd H p o) := fun b u q => by rw [upd_ne (ne_of_none q h)]; exact q
section
variable {P : Program} {w : World} {K : PySem.W.Frag} {mg : Str → Option Value} {base : Heap} {f : Addr} {fd : FuncData} {f_parts_of f_parts_of_all : Addr} {d_parts_of d_parts_of_all : FuncData} {pf : Addr}
def spParts : Sp := fun vs H Q _ => ∃ a xs ps, vs = [.ref a] ∧ H a = some (.tup xs) ∧ Shape H xs ps ∧ ps.length ≤ 1000 ∧ ∀ r H', Same H H' → H r = none → H' r = some (.lst ps) → Q (.ref r) H'
theorem ifT {c A B : Prop} [Decidable c] (h : c) (a : A) : if c then A else B := by rw [if_pos h]; exact a
theorem ifF {c A B : Prop} [Decidable c] (h : ¬ c) (b : B) : if c then A else B := by rw [if_neg h]; exact b
theorem notWhole {n k : Nat} (hk : 0 < k) (hn : 0 < n) (o : Option Int) : ¬ (HT.sIx n 0 (some (k : Int)) = 0 ∧ HT.sIx n n o = n) := by
  rw [HT.sIx_nat]
  omega
theorem ok_parts_of (F : Fun K "parts_of" "parts_of" s_parts_of f fd) (B : NoG mg) (TD : TopD w K pf PF) (m_PARTS_FROM : mg "PARTS_FROM" = some (.ref pf)) : FnOk P w K mg base CX0 1 f fd ["term"] spParts := by
  refine F.ok sc_parts_of (fun vs H Q E h => ?_) (fun cdv A outer s H vs Q E hr h => ?_)
  · obtain ⟨a, xs, ps, rfl, _⟩ := h
    rfl
  obtain ⟨a, xs, ps, rfl, ha, hs, hl, q⟩ := h
  have nd := sc_parts_of.nd
  have hu := hr.units0
  refine ⟨_, (pss_cons (ps_set (i := 1) nd rfl (Or.inl rfl) (pe_ix (kIx (K := K) (w := w)) (pv 0) pe_int (fun _ _ => rfl)))
      (pss_cons (ps_if (pt_cmpR (kEq (K := K) hu) (pv 1) pe_str rfl) (pss_one (ps_ret (pe_callTy (k_list (K := K)) rfl B.list_ bt_list (pa_cons (pe_ix (kIx (K := K) (w := w)) (pv 0) pe_int (fun _ _ => rfl)) pa_nil)))) pss_nil)
      (pss_cons (ps_if (pt_cmpR (kIn (K := K) (w := w)) (pv 1) (pe_glob (v := .ref _) rfl m_PARTS_FROM rfl) rfl) (pss_one (ps_ret (pe_callTy (k_list (K := K)) rfl B.list_ bt_list (pa_cons (pe_slice (kSl (K := K)) (pv 0) (po_some (pe_ix (kIx (K := K) (w := w)) (pe_glob (v := .ref _) rfl m_PARTS_FROM rfl) (pv 1) (fun _ _ => rfl))) po_none) pa_nil)))) pss_nil)
      (pss_one (ps_ret (pe_lst pa_nil)))))), ?_⟩
  cases hs
  case call c x hc =>
    refine ⟨_, rfl, .inr (.inl ⟨a, _, 0, _, rfl, rfl, SqT.of ha, rfl, ?_⟩)⟩
    refine ⟨_, rfl, .inl ⟨rfl, _, rfl, ?_⟩⟩
    refine ifT (by decide) ?_
    refine ⟨_, rfl, .inr (.inl ⟨a, _, 2, _, rfl, rfl, SqT.of ha, rfl, ?_⟩)⟩
    refine ⟨_, _, rfl, .inr (SqT.of hc), fun l hl => ?_⟩
    exact q l _ (same_new hl _) hl upd_same
  case num | truth | non | name =>
    refine ⟨_, rfl, .inr (.inl ⟨a, _, 0, _, rfl, rfl, SqT.of ha, rfl, ?_⟩)⟩
    refine ⟨_, rfl, .inl ⟨rfl, _, rfl, ?_⟩⟩
    refine ifF (by decide) ?_
    refine ⟨_, rfl, .inr (.inr ⟨_, _, PF, rfl, rfl, TD, _, rfl, ?_⟩)⟩
    refine ifF (by decide) ?_
    refine ⟨(by show 0 ≤ sizeLine; decide), fun l hl => ?_⟩
    exact q l _ (same_new hl _) hl upd_same
  all_goals
    refine ⟨_, rfl, .inr (.inl ⟨a, _, 0, _, rfl, rfl, SqT.of ha, rfl, ?_⟩)⟩
    refine ⟨_, rfl, .inl ⟨rfl, _, rfl, ?_⟩⟩
    refine ifF (by decide) ?_
    refine ⟨_, rfl, .inr (.inr ⟨_, _, PF, rfl, rfl, TD, _, rfl, ?_⟩)⟩
    refine ifT (by decide) ?_
    refine ⟨_, rfl, _, rfl, .inr (.inr (.inr ⟨_, _, PF, _, rfl, rfl, TD, rfl, _, rfl, .inr ⟨a, _, rfl, SqT.of ha, notWhole (by decide) (Nat.succ_pos _) _, fun p hp => ?_⟩⟩))⟩
    refine ⟨_, _, rfl, .inr (SqT.of upd_same), fun l hl => ?_⟩
    exact q l _ ((same_new hp _).trans (same_new hl _)) ((same_new hp _).free hl) upd_same
def spAll : Sp := fun vs H Q _ => ∃ l ts g, vs = [.ref l] ∧ H l = some (.lst ts) ∧ FAt H ts g ∧ g.size ≤ 1000 ∧ ∀ r H' ts', Same H H' → H r = none → H' r = some (.lst ts') → FAt H' ts' g.kids → Q (.ref r) H'
theorem ok_parts_of_all (F : Fun K "parts_of_all" "parts_of_all" s_parts_of_all f fd) (G_parts_of : FnOk P w K mg base CX0 1 f_parts_of d_parts_of ["term"] spParts) (b_parts_of : Binds K d_parts_of ["term"] []) (k_parts_of : PySem.W.keepIn K (.ref f_parts_of) = true) (m_parts_of : mg "parts_of" = some (.ref f_parts_of)) :
    FnOk P w K mg base CX0 2 f fd ["terms"] spAll := by
  refine F.ok sc_parts_of_all (fun vs H Q E h => ?_) (fun cdv A outer s H vs Q E hr h => ?_)
  · obtain ⟨l, ts, g, rfl, _⟩ := h
    rfl
  obtain ⟨l, ts, f, rfl, hl, hf, hsz, q⟩ := h
  have nd := sc_parts_of_all.nd
  refine ⟨_, (pss_cons (ps_set (i := 1) nd rfl (Or.inl rfl) (pe_lst pa_nil))
      (pss_cons (ps_for PassesOwn.never rfl (k_ilist (K := K) (pv 0)) (pg_name (i := 2) nd rfl (Or.inl rfl)) (pss_one (ps_expr (k_bm (K := K) PySem.F.plainAttrs_list PySem.F.slot_list_extend PySem.F.type_list_extend mt_extend (pv 1) (pa_cons (pe_call G_parts_of (hr.mono (by first | decide | omega)) rfl m_parts_of k_parts_of b_parts_of .nil pass0 (pa_cons (pv 2) pa_nil)) pa_nil)))))
      (pss_one (ps_ret (pv 1))))), ?_⟩
  refine ⟨(by show 0 ≤ sizeLine; decide), fun r hr0 => ?_⟩
  have g1 : Same H (upd H r (.lst [])) := same_new hr0 _
  refine ⟨_, rfl, l, rfl, ⟨ts, SqL.of (g1 _ _ hl)⟩, for_list (xs := ts) (fun i σ H' => ∃ z acc g rest, σ = [some (.ref l), some (.ref r), z] ∧ Same H H' ∧ H' r = some (.lst acc) ∧ FAt H' acc g ∧ FAt H' (ts.drop i) rest ∧ g.app rest.kids = f.kids ∧ rest.size ≤ 1000) ?_ ?_ ?_ ?_⟩
  · exact ⟨none, [], .nil, f, rfl, g1, upd_same, .nil, hf.mono (tups_of g1), rfl, hsz⟩
  · rintro i σ H' _ ⟨z, acc, g, rest, rfl, sm, _⟩
    exact SqL.of (sm _ _ hl)
  · rintro i x σ H' hx ⟨z, acc, g, rest, rfl, sm, hr1, hg, hrest, hk, hrs⟩
    have hd : ts.drop i = x :: ts.drop (i + 1) := by
      obtain ⟨h1, h2⟩ := List.getElem?_eq_some_iff.mp hx
      rw [List.drop_eq_getElem_cons h1, h2]
    rw [hd] at hrest
    cases hrest with
    | @cons a xs ps _ k r' ha hs hps hrest' =>
      have hks : k.size ≤ 1000 := by simp only [Fo.size] at hrs; omega
      have hpl : ps.length ≤ 1000 := by rw [hps.len]; exact Nat.le_trans k.len_le hks
      refine ⟨_, rfl, .inl ⟨rfl, acc, SqL.of hr1⟩, _, rfl, a, xs, ps, rfl, ha, hs, hpl, fun r2 H2 g2 n2 e2 => ?_⟩
      have hfs : g.size + (Fo.cons k r').kids.size = f.kids.size := by rw [← hk, Fo.size_app]
      refine ⟨r, r2, acc, ps, rfl, rfl, g2 _ _ hr1, e2, ?_, ?_⟩
      · have h1 := f.size_kids
        have h2 := g.len_le
        rw [hg.len, hps.len]
        have h3 := k.len_le
        have : (1000 : Nat) + 1000 ≤ sizeLine := by decide
        omega
      · have t3 : Tups H' (upd H2 r (.lst (acc ++ ps))) := (tups_of g2).trans (.lst (g2 _ _ hr1) _)
        refine ⟨_, acc ++ ps, g.app k, r', rfl, fun b o e => ?_, upd_same, (hg.app hps).mono t3, hrest'.mono t3, ?_, ?_⟩
        · rw [upd_ne (ne_of_none e hr0)]
          exact g2 _ _ (sm _ _ e)
        · rw [Fo.app_assoc]
          exact hk
        · simp only [Fo.size] at hrs; omega
  · rintro σ H' ⟨z, acc, g, rest, rfl, sm, hr1, hg, hrest, hk, _⟩
    rw [List.drop_length] at hrest
    cases hrest
    refine ⟨_, rfl, q r H' acc sm hr0 hr1 ?_⟩
    rw [← hk]
    show FAt H' acc (g.app .nil)
    rw [Fo.app_nil]
    exact hg
end
end K15
set_option maxHeartbeats 4000000
namespace K15
open PySem L2
seal PE PT PW PA PS PSs PTs PI PG PGs PO
section
variable {P : Program} {w : World} {K : PySem.W.Frag} {mg : Str → Option Value} {base : Heap} {f : Addr} {fd : FuncData} {f_parts_of f_parts_of_all : Addr} {d_parts_of d_parts_of_all : FuncData} {pf : Addr}
def spDepth : Sp := fun vs H Q _ => ∃ a f, vs = [.ref a] ∧ FAt H [.ref a] f ∧ f.size ≤ 1000 ∧ ∀ H', Same H H' → Q (.int (f.depth : Nat)) H'
theorem ok_depth_of (F : Fun K "depth_of" "depth_of" s_depth_of f fd) (G_parts_of_all : FnOk P w K mg base CX0 2 f_parts_of_all d_parts_of_all ["terms"] spAll) (b_parts_of_all : Binds K d_parts_of_all ["terms"] []) (k_parts_of_all : PySem.W.keepIn K (.ref f_parts_of_all) = true) (m_parts_of_all : mg "parts_of_all" = some (.ref f_parts_of_all)) :
    FnOk P w K mg base CX0 3 f fd ["term"] spDepth := by
  refine F.ok sc_depth_of (fun vs H Q E h => ?_) (fun cdv A outer s H vs Q E hr h => ?_)
  · obtain ⟨a, g, rfl, _⟩ := h
    rfl
  obtain ⟨a, f, rfl, hf, hsz, q⟩ := h
  have nd := sc_depth_of.nd
  refine ⟨_, (pss_cons (ps_set (i := 1) nd rfl (Or.inl rfl) pe_int)
      (pss_cons (ps_set (i := 2) nd rfl (Or.inl rfl) (pe_lst (pa_cons (pv 0) pa_nil)))
      (pss_cons (ps_while PassesOwn.never (k_truth (K := K) (pv 2) (fun _ => rfl)) (pss_cons (ps_aug (i := 1) nd rfl (Or.inl rfl) pe_int ip_add)
      (pss_one (ps_set (i := 2) nd rfl (Or.inl rfl) (pe_call G_parts_of_all (hr.mono (by first | decide | omega)) rfl m_parts_of_all k_parts_of_all b_parts_of_all .nil pass0 (pa_cons (pv 2) pa_nil))))))
      (pss_one (ps_ret (pv 1)))))), ?_⟩
  refine ⟨_, rfl, (by show 1 ≤ sizeLine; decide), fun l0 hl0 => ?_⟩
  have g0 : Same H (upd H l0 (.lst [.ref a])) := same_new hl0 _
  refine ⟨fun m σ H' => ∃ (d : Nat) (l : Addr) (ts : List V) (g : Fo), σ = [some (.ref a), some (.int d), some (.ref l)] ∧ Same H H' ∧ H' l = some (.lst ts) ∧ FAt H' ts g ∧ g.size ≤ 1000 ∧ d + g.depth = f.depth ∧ m = g.size,
    ⟨f.size, 0, l0, [.ref a], f, rfl, g0, upd_same, hf.mono (tups_of g0), hsz, by omega, rfl⟩, ?_⟩
  rintro m σ H' ⟨d, l, ts, g, rfl, sm, hl, hg, hgs, hd, rfl⟩
  refine ⟨_, rfl, !ts.isEmpty, .inl ⟨ts, SqL.of hl, rfl⟩, ?_⟩
  cases hg with
  | nil =>
    refine ifF (by decide) ?_
    have e : d = f.depth := by simpa [Fo.depth] using hd
    subst e
    exact ⟨_, rfl, q H' sm⟩
  | @cons a' xs ps vs k r ha hs hk hr' =>
    refine ifT rfl ?_
    refine ⟨_, fun _ _ h => h, ?_⟩
    refine ⟨_, rfl, _, _, rfl, rfl, ?_⟩
    refine ⟨_, rfl, l, _, .cons k r, rfl, hl, .cons ha hs hk hr', hgs, fun r2 H2 ts' g2 n2 e2 hf2 => ?_⟩
    have hkd := (Fo.cons k r).depth_kids
    have hks := (Fo.cons k r).size_kids
    refine ⟨(Fo.cons k r).kids.size, ?_, d + 1, r2, ts', _, rfl, sm.trans g2, e2, hf2, ?_, ?_, rfl⟩
    · simp only [Fo.len] at hks; omega
    · omega
    · rcases hkd with ⟨z, _⟩ | z
      · cases z
      · omega
def spSize : Sp := fun vs H Q _ => ∃ a f, vs = [.ref a] ∧ FAt H [.ref a] f ∧ f.size ≤ 1000 ∧ ∀ H', Same H H' → Q (.int (f.size : Nat)) H'
theorem ok_size_of (F : Fun K "size_of" "size_of" s_size_of f fd) (B : NoG mg) (G_parts_of_all : FnOk P w K mg base CX0 2 f_parts_of_all d_parts_of_all ["terms"] spAll) (b_parts_of_all : Binds K d_parts_of_all ["terms"] []) (k_parts_of_all : PySem.W.keepIn K (.ref f_parts_of_all) = true) (m_parts_of_all : mg "parts_of_all" = some (.ref f_parts_of_all)) :
    FnOk P w K mg base CX0 3 f fd ["term"] spSize := by
  refine F.ok sc_size_of (fun vs H Q E h => ?_) (fun cdv A outer s H vs Q E hr h => ?_)
  · obtain ⟨a, g, rfl, _⟩ := h
    rfl
  obtain ⟨a, f, rfl, hf, hsz, q⟩ := h
  have nd := sc_size_of.nd
  refine ⟨_, (pss_cons (ps_set (i := 1) nd rfl (Or.inl rfl) pe_int)
      (pss_cons (ps_set (i := 2) nd rfl (Or.inl rfl) (pe_lst (pa_cons (pv 0) pa_nil)))
      (pss_cons (ps_while PassesOwn.never (k_truth (K := K) (pv 2) (fun _ => rfl)) (pss_cons (ps_aug (i := 1) nd rfl (Or.inl rfl) (pe_callB (k_len (K := K)) rfl B.len_ bt_len (pa_cons (pv 2) pa_nil)) ip_add)
      (pss_one (ps_set (i := 2) nd rfl (Or.inl rfl) (pe_call G_parts_of_all (hr.mono (by first | decide | omega)) rfl m_parts_of_all k_parts_of_all b_parts_of_all .nil pass0 (pa_cons (pv 2) pa_nil))))))
      (pss_one (ps_ret (pv 1)))))), ?_⟩
  refine ⟨_, rfl, (by show 1 ≤ sizeLine; decide), fun l0 hl0 => ?_⟩
  have g0 : Same H (upd H l0 (.lst [.ref a])) := same_new hl0 _
  refine ⟨fun m σ H' => ∃ (d : Nat) (l : Addr) (ts : List V) (g : Fo), σ = [some (.ref a), some (.int d), some (.ref l)] ∧ Same H H' ∧ H' l = some (.lst ts) ∧ FAt H' ts g ∧ g.size ≤ 1000 ∧ d + g.size = f.size ∧ m = g.size,
    ⟨f.size, 0, l0, [.ref a], f, rfl, g0, upd_same, hf.mono (tups_of g0), hsz, by omega, rfl⟩, ?_⟩
  rintro m σ H' ⟨d, l, ts, g, rfl, sm, hl, hg, hgs, hd, rfl⟩
  refine ⟨_, rfl, !ts.isEmpty, .inl ⟨ts, SqL.of hl, rfl⟩, ?_⟩
  have hlen := hg.len
  cases hg with
  | nil =>
    refine ifF (by decide) ?_
    have e : d = f.size := by simpa [Fo.size] using hd
    subst e
    exact ⟨_, rfl, q H' sm⟩
  | @cons a' xs ps vs k r ha hs hk hr' =>
    refine ifT rfl ?_
    refine ⟨_, fun _ _ h => h, ?_⟩
    refine ⟨_, rfl, _, rfl, _, _, rfl, .inl ⟨_, SqL.of hl, rfl⟩, _, _, rfl, rfl, ?_⟩
    refine ⟨_, rfl, l, _, .cons k r, rfl, hl, .cons ha hs hk hr', hgs, fun r2 H2 ts' g2 n2 e2 hf2 => ?_⟩
    have hks := (Fo.cons k r).size_kids
    refine ⟨(Fo.cons k r).kids.size, ?_, d + (V.ref a' :: vs).length, r2, ts', _, ?_, sm.trans g2, e2, hf2, ?_, ?_, rfl⟩
    · simp only [Fo.len] at hks; omega
    · rfl
    · omega
    · rw [hlen]; omega
end
end K15
namespace RD
abbrev Wd := List Nat
inductive Tm where
  | num (n : Nat)
  | truth (b : Bool)
  | non
  | name (x : Wd)
  | two (s : Wd) (a b : Tm)
  | one (s : Wd) (a : Tm)
  | if_ (c a b : Tm)
  | let_ (x : Wd) (a b : Tm)
  | fn (x : Wd) (a : Tm)
  | do_ (f a : Tm)
  | call (x : Wd) (ts : List Tm)
abbrev wDef : Wd := [100, 101, 102]
abbrev wIf : Wd := [105, 102]
abbrev wThen : Wd := [116, 104, 101, 110]
abbrev wElse : Wd := [101, 108, 115, 101]
abbrev wLet : Wd := [108, 101, 116]
abbrev wIn : Wd := [105, 110]
abbrev wFn : Wd := [102, 110]
abbrev wYes : Wd := [121, 101, 115]
abbrev wNo : Wd := [110, 111]
abbrev wHead : Wd := [104, 101, 97, 100]
abbrev wTail : Wd := [116, 97, 105, 108]
abbrev wEmpty : Wd := [101, 109, 112, 116, 121]
abbrev wNot : Wd := [110, 111, 116]
abbrev wOpen : Wd := [40]
abbrev wShut : Wd := [41]
abbrev wComma : Wd := [44]
abbrev wEq : Wd := [61]
abbrev wLt : Wd := [60]
abbrev wColon : Wd := [58]
abbrev wPlus : Wd := [43]
abbrev wMinus : Wd := [45]
abbrev wTimes : Wd := [42]
abbrev wOver : Wd := [47]
abbrev wBang : Wd := [33]
abbrev wArrow : Wd := [61, 62]
abbrev wBra : Wd := [91]
abbrev wKet : Wd := [93]
def strength (w : Wd) : Nat := if w = wLt then 1 else if w = wEq then 1 else if w = wColon then 2 else if w = wPlus then 3 else if w = wMinus then 3 else if w = wTimes then 4 else if w = wOver then 4 else 0
def behind (w : Wd) : Nat := if w = wColon then strength w else strength w + 1
def comparing (w : Wd) : Bool := decide (w = wLt) || decide (w = wEq)
def oneWord (w : Wd) : Bool := decide (w = wHead) || decide (w = wTail) || decide (w = wEmpty) || decide (w = wNot)
def value (w : Wd) : Nat := w.foldl (fun n c => 10 * n + (c - 48)) 0
section
variable (isNum isName : Wd → Bool) (ws : List Wd)
def ahead (i : Nat) : Wd := (ws[i]?).getD []
def expect (w : Wd) (i : Nat) : Option Nat := if ahead ws i = w then some (i + 1) else none
def rName (i : Nat) : Option (Wd × Nat) := if isName (ahead ws i) = true then some (ahead ws i, i + 1) else none
def goesOn (many i : Nat) : Option (Bool × Nat) := if ahead ws i = wShut then some (false, i + 1) else if many = 4 then none else if 0 < many then (expect ws wComma i).map fun j => (true, j) else some (true, i)
def listed {α : Type} (one : Nat → Option (α × Nat)) : Nat → List α → Nat → Option (List α × Nat)
  | 0, _, _ => none
  | n + 1, acc, i => match goesOn ws acc.length i with
    | none => none
    | some (false, j) => some (acc, j)
    | some (true, j) => match one j with
      | none => none
      | some (x, k) => listed one n (acc ++ [x]) k
def rNames (i : Nat) : Option (List Wd × Nat) := (expect ws wOpen i).bind fun j => listed ws (rName isName ws) 5 [] j
section
variable (row : Nat → Nat → Nat → Option (Tm × Nat))
def rTerms (level i : Nat) : Option (List Tm × Nat) := (expect ws wOpen i).bind fun j => listed ws (row 1 level) 5 [] j
def rNamed (x : Wd) (level i : Nat) : Option (Tm × Nat) := if ahead ws i = wOpen then (rTerms ws row (level + 1) i).map fun r => (.call x r.1, r.2) else some (.name x, i)
def rTight (level i : Nat) : Option (Tm × Nat) :=
  if ahead ws i = wOpen then (row 1 level (i + 1)).bind fun r => (expect ws wShut r.2).map fun k => (r.1, k)
  else if ahead ws i = wBra then (expect ws wKet (i + 1)).map fun k => (.non, k)
  else if (decide (ahead ws i = wYes) || decide (ahead ws i = wNo)) = true then some (.truth (decide (ahead ws i = wYes)), i + 1)
  else if isNum (ahead ws i) = true then some (.num (value (ahead ws i)), i + 1)
  else if isName (ahead ws i) = true then rNamed ws row (ahead ws i) level (i + 1)
  else none
def rIf (level i : Nat) : Option (Tm × Nat) := (expect ws wIf i).bind fun i1 => (row 1 (level + 1) i1).bind fun r1 => (expect ws wThen r1.2).bind fun i2 => (row 1 (level + 1) i2).bind fun r2 => (expect ws wElse r2.2).bind fun i3 =>
  (row 1 (level + 1) i3).map fun r3 => (.if_ r1.1 r2.1 r3.1, r3.2)
def rLet (level i : Nat) : Option (Tm × Nat) := (expect ws wLet i).bind fun i1 => (rName isName ws i1).bind fun x => (expect ws wEq x.2).bind fun i2 => (row 1 (level + 1) i2).bind fun r1 => (expect ws wIn r1.2).bind fun i3 =>
  (row 1 (level + 1) i3).map fun r2 => (.let_ x.1 r1.1 r2.1, r2.2)
def rFn (level i : Nat) : Option (Tm × Nat) := (expect ws wFn i).bind fun i1 => (rName isName ws i1).bind fun x => (expect ws wArrow x.2).bind fun i2 => (row 1 (level + 1) i2).map fun r => (.fn x.1 r.1, r.2)
def rTW (level i : Nat) : Option (Tm × Nat) :=
  if ahead ws i = wIf then rIf ws row level i else if ahead ws i = wLet then rLet isName ws row level i else if ahead ws i = wFn then rFn isName ws row level i else rTight isNum isName ws row level i
def doLoop (level : Nat) : Nat → Tm → Nat → Option (Tm × Nat)
  | 0, t, i => some (t, i)
  | m + 1, t, i => if ahead ws i = wBang then (rTW isNum isName ws row (level + 1) (i + 1)).bind fun r => doLoop level m (.do_ t r.1) r.2 else some (t, i)
def rowLoop (least level : Nat) : Nat → Tm → Nat → Option (Tm × Nat)
  | 0, t, i => some (t, i)
  | m + 1, t, i => if least ≤ strength (ahead ws i) then (row (behind (ahead ws i)) (level + 1) (i + 1)).bind fun r => if (comparing (ahead ws i) && comparing (ahead ws r.2)) = true then none else rowLoop least level m (.two (ahead ws i) t r.1) r.2 else some (t, i)
def rOperand (op : Nat → Nat → Option (Tm × Nat)) (level i : Nat) : Option (Tm × Nat) :=
  if 16 < level then none else if oneWord (ahead ws i) = true then (op (level + 1) (i + 1)).map fun r => (.one (ahead ws i) r.1, r.2)
  else (rTW isNum isName ws row level i).bind fun r => doLoop isNum isName ws row level (ws.length + 1) r.1 r.2
end
def both : Nat → (Nat → Nat → Nat → Option (Tm × Nat)) × (Nat → Nat → Option (Tm × Nat))
  | 0 => (fun _ _ _ => none, fun _ _ => none)
  | n + 1 => (fun least level i => (rOperand isNum isName ws (both n).1 (both n).2 level i).bind fun r => rowLoop ws (both n).1 least level (ws.length + 1) r.1 r.2, rOperand isNum isName ws (both n).1 (both n).2)
structure Fd where
  name : Wd
  names : List Wd
  body : Tm
def rFunction (row : Nat → Nat → Nat → Option (Tm × Nat)) (i : Nat) : Option (Fd × Nat) := (expect ws wDef i).bind fun i1 => (rName isName ws i1).bind fun x => (rNames isName ws x.2).bind fun ns => (expect ws wEq ns.2).bind fun i2 =>
  (row 1 1 i2).map fun r => (⟨x.1, ns.1, r.1⟩, r.2)
def progLoop (row : Nat → Nat → Nat → Option (Tm × Nat)) : Nat → List Fd → Nat → Option (List Fd × Nat)
  | 0, acc, i => some (acc, i)
  | m + 1, acc, i => if ahead ws i = [] then some (acc, i) else if acc.length = 12 then none else (rFunction isName ws row i).bind fun r => progLoop row m (acc ++ [r.1]) r.2
def rProgram (row : Nat → Nat → Nat → Option (Tm × Nat)) : Option (List Fd) := (rFunction isName ws row 0).bind fun r => (progLoop isName ws row 13 [r.1] r.2).map (·.1)
def delta (w : Wd) : Int := (if w = wOpen then 1 else 0) - (if w = wShut then 1 else 0)
def stands : List Wd → Int
  | [] => 0
  | w :: r => delta w + stands r
def bracketsOk : Int → List Wd → Bool
  | _, [] => true
  | n, w :: r => decide (n + delta w ≤ 16) && bracketsOk (n + delta w) r
end
mutual
def Tm.depth : Tm → Nat
  | .num _ => 1
  | .truth _ => 1
  | .non => 1
  | .name _ => 1
  | .two _ a b => max a.depth b.depth + 1
  | .one _ a => a.depth + 1
  | .if_ c a b => max c.depth (max a.depth b.depth) + 1
  | .let_ _ a b => max a.depth b.depth + 1
  | .fn _ a => a.depth + 1
  | .do_ f a => max f.depth a.depth + 1
  | .call _ ts => depths ts + 1
def depths : List Tm → Nat
  | [] => 0
  | t :: r => max t.depth (depths r)
end
mutual
def Tm.size : Tm → Nat
  | .num _ => 1
  | .truth _ => 1
  | .non => 1
  | .name _ => 1
  | .two _ a b => a.size + b.size + 1
  | .one _ a => a.size + 1
  | .if_ c a b => c.size + a.size + b.size + 1
  | .let_ _ a b => a.size + b.size + 1
  | .fn _ a => a.size + 1
  | .do_ f a => f.size + a.size + 1
  | .call _ ts => sizes ts + 1
def sizes : List Tm → Nat
  | [] => 0
  | t :: r => t.size + sizes r
end
def great (fs : List Fd) : Bool := fs.any (fun f => decide (16 < f.body.depth)) || decide (400 < (fs.map fun f => f.body.size).sum)
def readWords (isNum isName : Wd → Bool) (ws : List Wd) : Option (List Fd) := if bracketsOk 0 ws = true then (rProgram isName ws (both isNum isName ws 32).1).bind fun fs => if great fs = true then none else some fs else none
end RD
namespace RD
def stAt (ws : List Wd) (i : Nat) : Int := stands (ws.take i)
theorem stands_app : ∀ a b : List Wd, stands (a ++ b) = stands a + stands b
  | [], b => by simp [stands]
  | w :: a, b => by simp only [List.cons_append, stands, stands_app a b]; omega
theorem ahead_lt {ws : List Wd} {i : Nat} (h : ahead ws i ≠ []) : i < ws.length := by
  by_cases hi : i < ws.length
  · exact hi
  · exact absurd (by simp [ahead, List.getElem?_eq_none (Nat.le_of_not_lt hi)]) h
theorem st_next {ws : List Wd} {i : Nat} (h : ahead ws i ≠ []) : stAt ws (i + 1) = stAt ws i + delta (ahead ws i) := by
  have hi := ahead_lt h
  have e : ahead ws i = ws[i] := by simp [ahead, hi]
  unfold stAt
  rw [List.take_succ_eq_append_getElem hi, stands_app, e]
  simp only [stands]
  omega
def Bal (ws : List Wd) (i j : Nat) : Prop := i < j ∧ stAt ws j = stAt ws i ∧ j ≤ ws.length
theorem Bal.trans {ws : List Wd} {i j k : Nat} (a : Bal ws i j) (b : Bal ws j k) : Bal ws i k := ⟨Nat.lt_trans a.1 b.1, b.2.1.trans a.2.1, b.2.2⟩
theorem expect_some {ws : List Wd} {w : Wd} {i j : Nat} (h : expect ws w i = some j) : ahead ws i = w ∧ j = i + 1 := by
  unfold expect at h
  split at h
  · rename_i e; cases h; exact ⟨e, rfl⟩
  · cases h
theorem expect_bal {ws : List Wd} {w : Wd} {i j : Nat} (h : expect ws w i = some j) (hw : w ≠ []) (hd : delta w = 0) : Bal ws i j := by
  obtain ⟨e, rfl⟩ := expect_some h
  have hn : ahead ws i ≠ [] := by rw [e]; exact hw
  refine ⟨Nat.lt_succ_self _, ?_, ahead_lt hn⟩
  rw [st_next hn, e, hd]
  omega
section
variable {isNum isName : Wd → Bool} {ws : List Wd}
structure Plain (isNum isName : Wd → Bool) : Prop where
  num : ∀ w, isNum w = true → w ≠ [] ∧ delta w = 0
  name : ∀ w, isName w = true → w ≠ [] ∧ delta w = 0
theorem one_bal {i : Nat} (hn : ahead ws i ≠ []) (hd : delta (ahead ws i) = 0) : Bal ws i (i + 1) := ⟨Nat.lt_succ_self _, by rw [st_next hn, hd]; omega, ahead_lt hn⟩
theorem rName_bal (hP : Plain isNum isName) {i : Nat} {r : Wd × Nat} (h : rName isName ws i = some r) : Bal ws i r.2 := by
  unfold rName at h
  split at h
  · rename_i e
    cases h
    obtain ⟨h1, h2⟩ := hP.name _ e
    exact one_bal h1 h2
  · cases h
theorem listed_bal {α : Type} {one : Nat → Option (α × Nat)} (h1 : ∀ i r, one i = some r → Bal ws i r.2) : ∀ {n : Nat} {acc : List α} {i : Nat} {r : List α × Nat}, listed ws one n acc i = some r → i < r.2 ∧ stAt ws r.2 = stAt ws i - 1 ∧ r.2 ≤ ws.length
  | 0, acc, i, r, h => by cases h
  | n + 1, acc, i, r, h => by
    unfold listed at h
    cases hg : goesOn ws acc.length i with
    | none => rw [hg] at h; cases h
    | some g =>
      rw [hg] at h
      obtain ⟨b, j⟩ := g
      unfold goesOn at hg
      cases b with
      | false =>
        cases h
        split at hg
        · rename_i e
          cases hg
          have hn : ahead ws i ≠ [] := by rw [e]; simp
          refine ⟨Nat.lt_succ_self _, ?_, ahead_lt hn⟩
          rw [st_next hn, e]
          show stAt ws i + ((0 : Int) - 1) = _
          omega
        · split at hg
          · cases hg
          · split at hg
            · cases he : expect ws wComma i with
              | none => rw [he] at hg; cases hg
              | some k => rw [he] at hg; cases hg
            · cases hg
      | true =>
        have hij : i ≤ j ∧ stAt ws j = stAt ws i := by
          split at hg
          · cases hg
          · split at hg
            · cases hg
            · split at hg
              · cases he : expect ws wComma i with
                | none => rw [he] at hg; cases hg
                | some k =>
                  rw [he] at hg
                  cases hg
                  have := expect_bal he (by simp) (by decide)
                  exact ⟨Nat.le_of_lt this.1, this.2.1⟩
              · cases hg; exact ⟨Nat.le_refl _, rfl⟩
        dsimp only at h
        cases ho : one j with
        | none => rw [ho] at h; cases h
        | some x =>
          rw [ho] at h
          have hb := h1 j x ho
          have ih := listed_bal h1 h
          exact ⟨Nat.lt_of_le_of_lt hij.1 (Nat.lt_trans hb.1 ih.1), by rw [ih.2.1, hb.2.1, hij.2], ih.2.2⟩
theorem open_st {i j : Nat} (h : expect ws wOpen i = some j) : j = i + 1 ∧ stAt ws j = stAt ws i + 1 := by
  obtain ⟨e, rfl⟩ := expect_some h
  have hn : ahead ws i ≠ [] := by rw [e]; simp
  refine ⟨rfl, ?_⟩
  rw [st_next hn, e]
  rfl
theorem rNames_bal (hP : Plain isNum isName) {i : Nat} {r : List Wd × Nat} (h : rNames isName ws i = some r) : Bal ws i r.2 := by
  unfold rNames at h
  cases he : expect ws wOpen i with
  | none => rw [he] at h; cases h
  | some j =>
    rw [he] at h
    obtain ⟨rfl, e2⟩ := open_st he
    have := listed_bal (fun i r => rName_bal hP) h
    exact ⟨Nat.lt_trans (Nat.lt_succ_self _) this.1, by rw [this.2.1, e2]; omega, this.2.2⟩
variable {row : Nat → Nat → Nat → Option (Tm × Nat)}
theorem rTerms_bal (hr : ∀ least level i r, 1 ≤ least → row least level i = some r → Bal ws i r.2) {level i : Nat} {r : List Tm × Nat} (h : rTerms ws row level i = some r) : Bal ws i r.2 := by
  unfold rTerms at h
  cases he : expect ws wOpen i with
  | none => rw [he] at h; cases h
  | some j =>
    rw [he] at h
    obtain ⟨rfl, e2⟩ := open_st he
    have := listed_bal (fun i r => hr 1 level i r (Nat.le_refl 1)) h
    exact ⟨Nat.lt_trans (Nat.lt_succ_self _) this.1, by rw [this.2.1, e2]; omega, this.2.2⟩
theorem rNamed_st (hr : ∀ least level i r, 1 ≤ least → row least level i = some r → Bal ws i r.2) {x : Wd} {level i : Nat} {r : Tm × Nat} (hi : i ≤ ws.length) (h : rNamed ws row x level i = some r) : i ≤ r.2 ∧ stAt ws r.2 = stAt ws i ∧ r.2 ≤ ws.length := by
  unfold rNamed at h
  split at h
  · cases ht : rTerms ws row (level + 1) i with
    | none => rw [ht] at h; cases h
    | some q =>
      rw [ht] at h
      cases h
      have := rTerms_bal hr ht
      exact ⟨Nat.le_of_lt this.1, this.2.1, this.2.2⟩
  · cases h; exact ⟨Nat.le_refl _, rfl, hi⟩
theorem rTight_bal (hP : Plain isNum isName) (hr : ∀ least level i r, 1 ≤ least → row least level i = some r → Bal ws i r.2) {level i : Nat} {r : Tm × Nat} (h : rTight isNum isName ws row level i = some r) : Bal ws i r.2 := by
  unfold rTight at h
  split at h
  · rename_i e
    cases hq : row 1 level (i + 1) with
    | none => rw [hq] at h; cases h
    | some q =>
      rw [hq] at h
      cases he : expect ws wShut q.2 with
      | none => simp only [Option.bind, he] at h; cases h
      | some k =>
        simp only [Option.bind, he] at h
        cases h
        have hb := hr _ _ _ _ (Nat.le_refl 1) hq
        obtain ⟨e1, rfl⟩ := expect_some he
        have hn : ahead ws i ≠ [] := by rw [e]; simp
        have hn2 : ahead ws q.2 ≠ [] := by rw [e1]; simp
        have s1 := st_next hn
        have s2 := st_next hn2
        rw [e] at s1
        rw [e1] at s2
        have d1 : delta wOpen = 1 := by decide
        have d2 : delta wShut = -1 := by decide
        refine ⟨?_, ?_, ahead_lt hn2⟩
        · have := hb.1
          show i < q.2 + 1
          omega
        · have := hb.2.1
          show stAt ws (q.2 + 1) = _
          omega
  · split at h
    · rename_i e
      cases he : expect ws wKet (i + 1) with
      | none => rw [he] at h; cases h
      | some k =>
        rw [he] at h
        cases h
        exact (one_bal (by rw [e]; simp) (by rw [e]; decide)).trans (expect_bal he (by simp) (by decide))
    · split at h
      · rename_i e
        cases h
        have hx : ahead ws i = wYes ∨ ahead ws i = wNo := by simpa using e
        rcases hx with e | e <;> exact one_bal (by rw [e]; simp) (by rw [e]; decide)
      · split at h
        · rename_i e
          cases h
          obtain ⟨h1, h2⟩ := hP.num _ e
          exact one_bal h1 h2
        · split at h
          · rename_i e
            obtain ⟨h1, h2⟩ := hP.name _ e
            have hb := one_bal h1 h2
            have := rNamed_st hr hb.2.2 h
            exact ⟨Nat.lt_of_lt_of_le hb.1 this.1, this.2.1.trans hb.2.1, this.2.2⟩
          · cases h
end
end RD
namespace RD
section
variable {isNum isName : Wd → Bool} {ws : List Wd} {row : Nat → Nat → Nat → Option (Tm × Nat)}
theorem rIf_bal (hr : ∀ least level i r, 1 ≤ least → row least level i = some r → Bal ws i r.2) {level i : Nat} {r : Tm × Nat} (h : rIf ws row level i = some r) : Bal ws i r.2 := by
  unfold rIf at h
  simp only [Option.bind_eq_some_iff, Option.map_eq_some_iff] at h
  obtain ⟨i1, e1, r1, e2, i2, e3, r2, e4, i3, e5, r3, e6, rfl⟩ := h
  exact (expect_bal e1 (by simp) (by decide)).trans ((hr _ _ _ r1 (Nat.le_refl 1) e2).trans ((expect_bal e3 (by simp) (by decide)).trans ((hr _ _ _ r2 (Nat.le_refl 1) e4).trans ((expect_bal e5 (by simp) (by decide)).trans (hr _ _ _ r3 (Nat.le_refl 1) e6)))))
theorem rLet_bal (hP : Plain isNum isName) (hr : ∀ least level i r, 1 ≤ least → row least level i = some r → Bal ws i r.2) {level i : Nat} {r : Tm × Nat} (h : rLet isName ws row level i = some r) : Bal ws i r.2 := by
  unfold rLet at h
  simp only [Option.bind_eq_some_iff, Option.map_eq_some_iff] at h
  obtain ⟨i1, e1, x, e2, i2, e3, r1, e4, i3, e5, r2, e6, rfl⟩ := h
  exact (expect_bal e1 (by simp) (by decide)).trans ((rName_bal hP e2).trans ((expect_bal e3 (by simp) (by decide)).trans ((hr _ _ _ r1 (Nat.le_refl 1) e4).trans ((expect_bal e5 (by simp) (by decide)).trans (hr _ _ _ r2 (Nat.le_refl 1) e6)))))
theorem rFn_bal (hP : Plain isNum isName) (hr : ∀ least level i r, 1 ≤ least → row least level i = some r → Bal ws i r.2) {level i : Nat} {r : Tm × Nat} (h : rFn isName ws row level i = some r) : Bal ws i r.2 := by
  unfold rFn at h
  simp only [Option.bind_eq_some_iff, Option.map_eq_some_iff] at h
  obtain ⟨i1, e1, x, e2, i2, e3, r1, e4, rfl⟩ := h
  exact (expect_bal e1 (by simp) (by decide)).trans ((rName_bal hP e2).trans ((expect_bal e3 (by simp) (by decide)).trans (hr _ _ _ r1 (Nat.le_refl 1) e4)))
theorem rTW_bal (hP : Plain isNum isName) (hr : ∀ least level i r, 1 ≤ least → row least level i = some r → Bal ws i r.2) {level i : Nat} {r : Tm × Nat} (h : rTW isNum isName ws row level i = some r) : Bal ws i r.2 := by
  unfold rTW at h
  split at h
  · exact rIf_bal hr h
  · split at h
    · exact rLet_bal hP hr h
    · split at h
      · exact rFn_bal hP hr h
      · exact rTight_bal hP hr h
theorem doLoop_st (hP : Plain isNum isName) (hr : ∀ least level i r, 1 ≤ least → row least level i = some r → Bal ws i r.2) {level : Nat} : ∀ {m : Nat} {t : Tm} {i : Nat} {r : Tm × Nat}, i ≤ ws.length → doLoop isNum isName ws row level m t i = some r → i ≤ r.2 ∧ stAt ws r.2 = stAt ws i ∧ r.2 ≤ ws.length
  | 0, t, i, r, hi, h => by cases h; exact ⟨Nat.le_refl _, rfl, hi⟩
  | m + 1, t, i, r, hi, h => by
    unfold doLoop at h
    split at h
    · rename_i e
      simp only [Option.bind_eq_some_iff] at h
      obtain ⟨q, e1, e2⟩ := h
      have b1 := (one_bal (ws := ws) (i := i) (by rw [e]; simp) (by rw [e]; decide)).trans (rTW_bal hP hr e1)
      have ih := doLoop_st hP hr b1.2.2 e2
      exact ⟨Nat.le_trans (Nat.le_of_lt b1.1) ih.1, ih.2.1.trans b1.2.1, ih.2.2⟩
    · cases h; exact ⟨Nat.le_refl _, rfl, hi⟩
theorem strength_plain {w : Wd} (h : 1 ≤ strength w) : w ≠ [] ∧ delta w = 0 := by
  unfold strength at h
  repeat' split at h
  all_goals first | (rename_i e; subst e; exact ⟨by simp, by decide⟩) | omega
theorem behind_pos (w : Wd) : 1 ≤ behind w := by
  unfold behind
  split
  · rename_i e; subst e; decide
  · omega
theorem rowLoop_st (hr : ∀ least level i r, 1 ≤ least → row least level i = some r → Bal ws i r.2) {least level : Nat} (hl : 1 ≤ least) : ∀ {m : Nat} {t : Tm} {i : Nat} {r : Tm × Nat}, i ≤ ws.length → rowLoop ws row least level m t i = some r → i ≤ r.2 ∧ stAt ws r.2 = stAt ws i ∧ r.2 ≤ ws.length
  | 0, t, i, r, hi, h => by cases h; exact ⟨Nat.le_refl _, rfl, hi⟩
  | m + 1, t, i, r, hi, h => by
    unfold rowLoop at h
    split at h
    · rename_i e
      simp only [Option.bind_eq_some_iff] at h
      obtain ⟨q, e1, e2⟩ := h
      split at e2
      · cases e2
      obtain ⟨p1, p2⟩ := strength_plain (Nat.le_trans hl e)
      have b1 := (one_bal p1 p2).trans (hr _ _ _ q (behind_pos _) e1)
      have ih := rowLoop_st hr hl b1.2.2 e2
      exact ⟨Nat.le_trans (Nat.le_of_lt b1.1) ih.1, ih.2.1.trans b1.2.1, ih.2.2⟩
    · cases h; exact ⟨Nat.le_refl _, rfl, hi⟩
theorem oneWord_plain {w : Wd} (h : oneWord w = true) : w ≠ [] ∧ delta w = 0 := by
  have hx : ((w = wHead ∨ w = wTail) ∨ w = wEmpty) ∨ w = wNot := by simpa [oneWord] using h
  rcases hx with ((e | e) | e) | e <;> subst e <;> exact ⟨by simp, by decide⟩
theorem rOperand_bal (hP : Plain isNum isName) (hr : ∀ least level i r, 1 ≤ least → row least level i = some r → Bal ws i r.2) {op : Nat → Nat → Option (Tm × Nat)} (ho : ∀ level i r, op level i = some r → Bal ws i r.2) {level i : Nat} {r : Tm × Nat} (h : rOperand isNum isName ws row op level i = some r) : Bal ws i r.2 := by
  unfold rOperand at h
  split at h
  · cases h
  split at h
  · rename_i e
    simp only [Option.map_eq_some_iff] at h
    obtain ⟨q, e1, rfl⟩ := h
    obtain ⟨p1, p2⟩ := oneWord_plain e
    exact (one_bal p1 p2).trans (ho _ _ q e1)
  · simp only [Option.bind_eq_some_iff] at h
    obtain ⟨q, e1, e2⟩ := h
    have b1 := rTW_bal hP hr e1
    have := doLoop_st hP hr b1.2.2 e2
    exact ⟨Nat.lt_of_lt_of_le b1.1 this.1, this.2.1.trans b1.2.1, this.2.2⟩
end
theorem both_bal {isNum isName : Wd → Bool} {ws : List Wd} (hP : Plain isNum isName) : ∀ n, (∀ least level i r, 1 ≤ least → (both isNum isName ws n).1 least level i = some r → Bal ws i r.2) ∧ (∀ level i r, (both isNum isName ws n).2 level i = some r → Bal ws i r.2) := by
  intro n
  induction n with
  | zero => exact ⟨fun _ _ _ _ _ h => (by cases h), fun _ _ _ h => (by cases h)⟩
  | succ n ih =>
    refine ⟨fun least level i r hl h => ?_, fun level i r h => rOperand_bal hP ih.1 ih.2 h⟩
    simp only [both, Option.bind_eq_some_iff] at h
    obtain ⟨q, e1, e2⟩ := h
    have b1 := rOperand_bal hP ih.1 ih.2 e1
    have := rowLoop_st ih.1 hl b1.2.2 e2
    exact ⟨Nat.lt_of_lt_of_le b1.1 this.1, this.2.1.trans b1.2.1, this.2.2⟩
end RD
namespace RD
open PySem L2
def But (p : Addr) (H H' : Hp) : Prop := ∀ b o, b ≠ p → H b = some o → H' b = some o
theorem But.refl {p : Addr} {H : Hp} : But p H H := fun _ _ _ e => e
theorem But.trans {p : Addr} {H H1 H2 : Hp} (a : But p H H1) (b : But p H1 H2) : But p H H2 := fun c o n h => b c o n (a c o n h)
theorem Same.but {p : Addr} {H H' : Hp} (h : Same H H') : But p H H' := fun b o _ e => h b o e
theorem but_upd {p : Addr} {H : Hp} (o : HO) : But p H (upd H p o) := fun b u n e => by rw [upd_ne n]; exact e
abbrev wds (ws : List Wd) : List V := ws.map fun x => V.str (tx x)
structure Rd where
  a : Addr
  l : Addr
  ws : List Wd
def RAt (C : Addr) (H : Hp) (R : Rd) (i : Nat) : Prop := ∃ dx, H R.a = some (.ins C dx [("found", .ref R.l), ("place", .int (i : Nat))]) ∧ H R.l = some (.lst (wds R.ws))
theorem RAt.same {C : Addr} {H H' : Hp} {R : Rd} {i : Nat} (h : RAt C H R i) (b : Same H H') : RAt C H' R i := by
  obtain ⟨dx, h1, h2⟩ := h
  exact ⟨dx, b _ _ h1, b _ _ h2⟩
theorem RAt.tups {C : Addr} {H H' : Hp} {R : Rd} {i : Nat} (h : RAt C H R i) (b : But R.a H H') : BU.Tups H H' := by
  obtain ⟨dx, h1, h2⟩ := h
  exact fun c xs e => b c _ (ne_of e h1 (by intro z; cases z)) e
theorem RAt.keep {C l : Addr} {H H' : Hp} {R : Rd} {i : Nat} {xs : List V} (h : RAt C H R i) (b : But R.a H H') (hl : H l = some (.lst xs)) : H' l = some (.lst xs) := by
  obtain ⟨dx, h1, h2⟩ := h
  exact b _ _ (ne_of hl h1 (by intro z; cases z)) hl
theorem RAt.list {C l : Addr} {H : Hp} {R : Rd} {i : Nat} {xs ys : List V} (h : RAt C H R i) (hl : H l = some (.lst xs)) (hn : R.l ≠ l) : RAt C (upd H l (.lst ys)) R i := by
  obtain ⟨dx, h1, h2⟩ := h
  refine ⟨dx, ?_, ?_⟩
  · rw [upd_ne (ne_of h1 hl (by intro z; cases z))]; exact h1
  · rw [upd_ne hn]; exact h2
mutual
inductive TmAt (H : Hp) : Tm → V → Prop where
  | num {a : Addr} {n : Nat} : H a = some (.tup [.str "number", .int (n : Nat)]) → TmAt H (.num n) (.ref a)
  | truth {a : Addr} {b : Bool} : H a = some (.tup [.str "truth", .bl b]) → TmAt H (.truth b) (.ref a)
  | non {a : Addr} : H a = some (.tup [.str "none"]) → TmAt H .non (.ref a)
  | name {a : Addr} {x : Wd} : H a = some (.tup [.str "name", .str (tx x)]) → TmAt H (.name x) (.ref a)
  | two {a : Addr} {s : Wd} {t u : Tm} {v w : V} : H a = some (.tup [.str "two", .str (tx s), v, w]) → TmAt H t v → TmAt H u w → TmAt H (.two s t u) (.ref a)
  | one {a : Addr} {s : Wd} {t : Tm} {v : V} : H a = some (.tup [.str "one", .str (tx s), v]) → TmAt H t v → TmAt H (.one s t) (.ref a)
  | if_ {a : Addr} {c t u : Tm} {x v w : V} : H a = some (.tup [.str "if", x, v, w]) → TmAt H c x → TmAt H t v → TmAt H u w → TmAt H (.if_ c t u) (.ref a)
  | let_ {a : Addr} {x : Wd} {t u : Tm} {v w : V} : H a = some (.tup [.str "let", .str (tx x), v, w]) → TmAt H t v → TmAt H u w → TmAt H (.let_ x t u) (.ref a)
  | fn {a : Addr} {x : Wd} {t : Tm} {v : V} : H a = some (.tup [.str "fn", .str (tx x), v]) → TmAt H t v → TmAt H (.fn x t) (.ref a)
  | do_ {a : Addr} {t u : Tm} {v w : V} : H a = some (.tup [.str "do", v, w]) → TmAt H t v → TmAt H u w → TmAt H (.do_ t u) (.ref a)
  | call {a c : Addr} {x : Wd} {ts : List Tm} {vs : List V} : H a = some (.tup [.str "call", .str (tx x), .ref c]) → H c = some (.tup vs) → TmsAt H ts vs → TmAt H (.call x ts) (.ref a)
inductive TmsAt (H : Hp) : List Tm → List V → Prop where
  | nil : TmsAt H [] []
  | cons {t : Tm} {v : V} {ts : List Tm} {vs : List V} : TmAt H t v → TmsAt H ts vs → TmsAt H (t :: ts) (v :: vs)
end
mutual
theorem TmAt.mono {H H' : Hp} (m : BU.Tups H H') {t : Tm} {v : V} (h : TmAt H t v) : TmAt H' t v := by
  cases h with
  | num h => exact .num (m _ _ h)
  | truth h => exact .truth (m _ _ h)
  | non h => exact .non (m _ _ h)
  | name h => exact .name (m _ _ h)
  | two h h1 h2 => exact .two (m _ _ h) (h1.mono m) (h2.mono m)
  | one h h1 => exact .one (m _ _ h) (h1.mono m)
  | if_ h h1 h2 h3 => exact .if_ (m _ _ h) (h1.mono m) (h2.mono m) (h3.mono m)
  | let_ h h1 h2 => exact .let_ (m _ _ h) (h1.mono m) (h2.mono m)
  | fn h h1 => exact .fn (m _ _ h) (h1.mono m)
  | do_ h h1 h2 => exact .do_ (m _ _ h) (h1.mono m) (h2.mono m)
  | call h hc h1 => exact .call (m _ _ h) (m _ _ hc) (h1.mono m)
theorem TmsAt.mono {H H' : Hp} (m : BU.Tups H H') {ts : List Tm} {vs : List V} (h : TmsAt H ts vs) : TmsAt H' ts vs := by
  cases h with
  | nil => exact .nil
  | cons h1 h2 => exact .cons (h1.mono m) (h2.mono m)
end
theorem TmsAt.snoc {H : Hp} : ∀ {ts : List Tm} {vs : List V} {t : Tm} {v : V}, TmsAt H ts vs → TmAt H t v → TmsAt H (ts ++ [t]) (vs ++ [v])
  | _, _, _, _, .nil, h => .cons h .nil
  | _, _, _, _, .cons h1 h2, h => .cons h1 (h2.snoc h)
theorem TmsAt.len {H : Hp} : ∀ {ts : List Tm} {vs : List V}, TmsAt H ts vs → ts.length = vs.length
  | _, _, .nil => rfl
  | _, _, .cons _ h => by simp only [List.length_cons, h.len]
end RD
set_option maxHeartbeats 4000000
namespace RD
open PySem L2
seal PE PT PW PA PS PSs PTs PI PG PGs PO
def top (i : Nat) : Stmt := PySem.Challenge.pw_speakmill_k12_strengths.main.body.getD i (.Pass ⟨0, 0, 0, 0⟩)
abbrev s_ahead : Stmt := inClass (top 39) 1
abbrev s_take : Stmt := inClass (top 39) 2
abbrev s_expect : Stmt := inClass (top 39) 3
abbrev s_read_name : Stmt := inClass (top 39) 6
abbrev s_goes_on : Stmt := inClass (top 39) 9
abbrev s_read_names : Stmt := inClass (top 39) 7
theorem sc_ahead : FnScope ["self"] ["self"] (defScope s_ahead) := ⟨rfl, rfl, rfl, by decide +kernel, rfl, by decide +kernel, by decide +kernel⟩
theorem sc_take : FnScope ["self", "word"] ["self"] (defScope s_take) := ⟨rfl, rfl, rfl, by decide +kernel, rfl, by decide +kernel, by decide +kernel⟩
theorem sc_expect : FnScope ["self", "wanted", "word"] ["self", "wanted"] (defScope s_expect) := ⟨rfl, rfl, rfl, by decide +kernel, rfl, by decide +kernel, by decide +kernel⟩
theorem sc_read_name : FnScope ["self", "word"] ["self"] (defScope s_read_name) := ⟨rfl, rfl, rfl, by decide +kernel, rfl, by decide +kernel, by decide +kernel⟩
theorem sc_goes_on : FnScope ["self", "many"] ["self", "many"] (defScope s_goes_on) := ⟨rfl, rfl, rfl, by decide +kernel, rfl, by decide +kernel, by decide +kernel⟩
theorem sc_read_names : FnScope ["self", "names"] ["self"] (defScope s_read_names) := ⟨rfl, rfl, rfl, by decide +kernel, rfl, by decide +kernel, by decide +kernel⟩
theorem ifT {c A B : Prop} [Decidable c] (h : c) (a : A) : if c then A else B := by rw [if_pos h]; exact a
theorem ifF {c A B : Prop} [Decidable c] (h : ¬ c) (b : B) : if c then A else B := by rw [if_neg h]; exact b
structure RCls (K : PySem.W.Frag) (C : Addr) (mf : Str → Addr) (md : Str → FuncData) : Prop where
  cl : Cls K C
  nf : NoAttr K C "found"
  np : NoAttr K C "place"
  m_ahead : Meth K C "ahead" (mf "ahead")
  m_take : Meth K C "take" (mf "take")
  m_expect : Meth K C "expect" (mf "expect")
  m_read_program : Meth K C "read_program" (mf "read_program")
  m_read_function : Meth K C "read_function" (mf "read_function")
  m_read_name : Meth K C "read_name" (mf "read_name")
  m_read_names : Meth K C "read_names" (mf "read_names")
  m_read_terms : Meth K C "read_terms" (mf "read_terms")
  m_goes_on : Meth K C "goes_on" (mf "goes_on")
  m_read_term : Meth K C "read_term" (mf "read_term")
  m_read_row : Meth K C "read_row" (mf "read_row")
  m_refuse_side_by_side : Meth K C "refuse_side_by_side" (mf "refuse_side_by_side")
  m_read_operand : Meth K C "read_operand" (mf "read_operand")
  m_read_tight_or_wide : Meth K C "read_tight_or_wide" (mf "read_tight_or_wide")
  m_read_if : Meth K C "read_if" (mf "read_if")
  m_read_let : Meth K C "read_let" (mf "read_let")
  m_read_fn : Meth K C "read_fn" (mf "read_fn")
  m_read_tight : Meth K C "read_tight" (mf "read_tight")
  m_read_named : Meth K C "read_named" (mf "read_named")
  b_ahead : Binds K (md "ahead") ["self"] []
  b_take : Binds K (md "take") ["self"] []
  b_expect : Binds K (md "expect") ["self", "wanted"] []
  b_read_program : Binds K (md "read_program") ["self"] []
  b_read_function : Binds K (md "read_function") ["self"] []
  b_read_name : Binds K (md "read_name") ["self"] []
  b_read_names : Binds K (md "read_names") ["self"] []
  b_read_terms : Binds K (md "read_terms") ["self", "level"] []
  b_goes_on : Binds K (md "goes_on") ["self", "many"] []
  b_read_term : Binds K (md "read_term") ["self", "level"] []
  b_read_row : Binds K (md "read_row") ["self", "least", "level"] []
  b_refuse_side_by_side : Binds K (md "refuse_side_by_side") ["self", "sign"] []
  b_read_operand : Binds K (md "read_operand") ["self", "level"] []
  b_read_tight_or_wide : Binds K (md "read_tight_or_wide") ["self", "level"] []
  b_read_if : Binds K (md "read_if") ["self", "level"] []
  b_read_let : Binds K (md "read_let") ["self", "level"] []
  b_read_fn : Binds K (md "read_fn") ["self", "level"] []
  b_read_tight : Binds K (md "read_tight") ["self", "level"] []
  b_read_named : Binds K (md "read_named") ["self", "name", "level"] []
theorem lk_found (u v : V) : ([("found", u), ("place", v)] : List (Str × V)).lookup ("found" : Str) = some u := by rfl
theorem lk_place (u v : V) : ([("found", u), ("place", v)] : List (Str × V)).lookup ("place" : Str) = some v := by rfl
theorem put_place (u v z : V) : putF ("place" : Str) z ([("found", u), ("place", v)] : List (Str × V)) = ([("found", u), ("place", z)] : List (Str × V)) := by rfl
theorem mth {C : Addr} {R : Rd} {m : Str} {sp : Sp} {E : XK} {t : TA} {σ : St} {H : Hp} {Q : VK} {i : Nat} (h : RAt C H R i) (h0 : σ[0]? = some (some (.ref R.a))) (hm : ∀ u v, ([("found", u), ("place", v)] : List (Str × V)).lookup m = none)
    (k : t σ H fun vs H2 => sp (.ref R.a :: (vs ++ [])) H2 Q E) : tMeth C m sp [] E (tVar 0) t σ H Q := by
  obtain ⟨dx, h1, h2⟩ := h
  exact ⟨_, h0, R.a, dx, _, rfl, h1, hm _ _, k⟩
structure Good (ws : List Wd) : Prop where
  len : ws.length ≤ 4000
  wd : ∀ w ∈ ws, w.length ≤ 4000 ∧ (∀ c ∈ w, c < 16 ^ 8) ∧ (K10.isNum w = true → w = [49])
theorem Good.ahead {ws : List Wd} (g : Good ws) (i : Nat) : (ahead ws i).length ≤ 4000 ∧ (∀ c ∈ ahead ws i, c < 16 ^ 8) ∧ (K10.isNum (ahead ws i) = true → ahead ws i = [49]) := by
  unfold RD.ahead
  cases h : ws[i]? with
  | none => exact ⟨Nat.zero_le _, fun c hc => by simp at hc, fun h => absurd h (by decide)⟩
  | some w => exact g.wd w (List.mem_of_getElem? h)
theorem Good.repr {ws : List Wd} (g : Good ws) (i : Nat) : (reprText (tx (RD.ahead ws i))).length ≤ 1000000 := by
  have h := g.ahead i
  exact Nat.le_trans (repr_short h.2.1) (by omega)
def Ret {α : Type} (C cT : Addr) (R : Rd) (H : Hp) (o : Option (α × Nat)) (out : Hp → α → V → Prop) (Q : VK) (E : XK) : Prop :=
  (∀ x j r H', o = some (x, j) → But R.a H H' → RAt C H' R j → out H' x r → Q r H') ∧ (o = none → ∀ H', E (.ref cT) none H')
theorem Ret.from {α : Type} {C cT : Addr} {R : Rd} {H H1 : Hp} {o : Option (α × Nat)} {out : Hp → α → V → Prop} {Q : VK} {E : XK} (h : Ret C cT R H o out Q E) (b : But R.a H H1) : Ret C cT R H1 o out Q E :=
  ⟨fun x j r H' e b' ra ho => h.1 x j r H' e (b.trans b') ra ho, h.2⟩
section
variable {P : Program} {w : World} {K : PySem.W.Frag} {mg : Str → Option Value} {base : Heap} {C cT : Addr} {mf : Str → Addr} {md : Str → FuncData} {f_is_name : Addr} {d_is_name : FuncData}
def spAhead (C : Addr) : Sp := fun vs H Q _ => ∃ R i, vs = [.ref R.a] ∧ RAt C H R i ∧ R.ws.length ≤ 4000 ∧ Q (.str (tx (ahead R.ws i))) H
theorem ok_ahead (F : Fun K "ahead" "Reader.ahead" s_ahead (mf "ahead") (md "ahead")) (B : K10.NoG mg) (RC : RCls K C mf md) : FnOk P w K mg base CX0 1 (mf "ahead") (md "ahead") ["self"] (spAhead C) := by
  refine F.ok sc_ahead (fun vs H Q E h => ?_) (fun cdv A outer s H vs Q E hr h => ?_)
  · obtain ⟨R, i, rfl, _⟩ := h
    rfl
  obtain ⟨R, i, rfl, ⟨dx, h1, h2⟩, hl, q⟩ := h
  have nd := sc_ahead.nd
  refine ⟨_, (pss_cons (ps_if (pt_cmpR op_lt (pe_fld (pv 0) rfl) (pe_callB (k_len (K := K)) rfl B.len_ bt_len (pa_cons (pe_fld (pv 0) rfl) pa_nil)) rfl) (pss_one (ps_ret (pe_ix (kIx (K := K) (w := w)) (pe_fld (pv 0) rfl) (pe_fld (pv 0) rfl) (fun _ _ => rfl)))) pss_nil)
      (pss_one (ps_ret pe_str))), ?_⟩
  refine ⟨_, rfl, R.a, C, dx, _, _, rfl, h1, RC.cl, RC.np, lk_place _ _, ?_⟩
  refine ⟨_, rfl, R.a, C, dx, _, _, rfl, h1, RC.cl, RC.nf, lk_found _ _, _, _, rfl, .inl ⟨_, SqL.of h2, rfl⟩, _, _, rfl, rfl, _, rfl, ite2 (fun e => ?_) (fun e => ?_)⟩
  · have e' : (i : Int) < ((wds R.ws).length : Nat) := of_decide_eq_true e
    have hi : i < R.ws.length := by rw [List.length_map] at e'; omega
    have hat : atI (wds R.ws) (i : Int) = some (.str (tx R.ws[i])) := atI_nat (by rw [List.getElem?_map, List.getElem?_eq_getElem hi]; rfl)
    refine ⟨_, rfl, R.a, C, dx, _, _, rfl, h1, RC.cl, RC.nf, lk_found _ _, _, rfl, R.a, C, dx, _, _, rfl, h1, RC.cl, RC.np, lk_place _ _,   .inl ⟨R.l, _, _, _, rfl, rfl, SqL.of h2, hat, ?_⟩⟩
    have ea : ahead R.ws i = R.ws[i] := by simp [ahead, hi]
    rw [ea] at q
    exact q
  · have e' : ¬ (i : Int) < ((wds R.ws).length : Nat) := fun h => e (decide_eq_true h)
    have hi : ¬ i < R.ws.length := by rw [List.length_map] at e'; omega
    have ea : ahead R.ws i = [] := by simp [ahead, List.getElem?_eq_none (Nat.le_of_not_lt hi)]
    rw [ea] at q
    exact q
def spTake (C : Addr) : Sp := fun vs H Q _ => ∃ R i, vs = [.ref R.a] ∧ RAt C H R i ∧ R.ws.length ≤ 4000 ∧ ∀ H', But R.a H H' → RAt C H' R (i + 1) → Q (.str (tx (ahead R.ws i))) H'
theorem ok_take (F : Fun K "take" "Reader.take" s_take (mf "take") (md "take")) (RC : RCls K C mf md) (G_ahead : FnOk P w K mg base CX0 1 (mf "ahead") (md "ahead") ["self"] (spAhead C)) : FnOk P w K mg base CX0 2 (mf "take") (md "take") ["self"] (spTake C) := by
  refine F.ok sc_take (fun vs H Q E h => ?_) (fun cdv A outer s H vs Q E hr h => ?_)
  · obtain ⟨R, i, rfl, _⟩ := h
    rfl
  obtain ⟨R, i, rfl, hR, hl, q⟩ := h
  obtain ⟨dx, h1, h2⟩ := id hR
  have nd := sc_take.nd
  refine ⟨_, (pss_cons (ps_set (i := 1) nd rfl (Or.inl rfl) (pe_meth0 (pv 0) RC.cl RC.m_ahead G_ahead (hr.mono (by omega)) RC.b_ahead .nil pass0 ))
      (pss_cons (ps_fldaug (pv 0) pe_int in_add)
      (pss_one (ps_ret (pv 1))))), ?_⟩
  refine mth hR rfl (fun _ _ => rfl) ⟨R, i, rfl, hR, hl, ?_⟩
  refine ⟨_, rfl, R.a, C, dx, _, _, rfl, h1, RC.cl, RC.np, lk_place _ _, _, _, rfl, rfl, dx, _, h1, (by show 2 < 1000; decide), ?_⟩
  rw [put_place]
  refine ⟨_, rfl, q _ (but_upd _) ⟨dx, upd_same, ?_⟩⟩
  rw [upd_ne (ne_of h2 h1 (by intro z; cases z))]
  exact h2
def spExpect (C cT : Addr) : Sp := fun vs H Q E => ∃ R i z x, vs = [.ref R.a, .str z] ∧ z = tx x ∧ x.length ≤ 10 ∧ (∀ c ∈ x, c < 16 ^ 8) ∧ RAt C H R i ∧ Good R.ws ∧ Ret C cT R H ((expect R.ws x i).map fun j => ((), j)) (fun _ _ r => r = .non) Q E
theorem ok_expect (F : Fun K "expect" "Reader.expect" s_expect (mf "expect") (md "expect")) (RC : RCls K C mf md) (X_BadText : XCls K mg "BadText" cT) (G_take : FnOk P w K mg base CX0 2 (mf "take") (md "take") ["self"] (spTake C)) :
    FnOk P w K mg base (CXr P w) 3 (mf "expect") (md "expect") ["self", "wanted"] (spExpect C cT) := by
  refine F.okX sc_expect (fun vs H Q E h => ?_) (fun cdv A outer s H vs Q E hr h => ?_)
  · obtain ⟨R, i, z, x, rfl, _⟩ := h
    rfl
  obtain ⟨R, i, z, x, rfl, rfl, hx, hx8, hR, g, q⟩ := h
  have nd := sc_expect.nd
  have hu := hr.units0
  refine ⟨_, (pss_cons (ps_set (i := 2) nd rfl (Or.inl rfl) (pe_meth0 (pv 0) RC.cl RC.m_take G_take (hr.mono (by omega)) RC.b_take .nil pass0 ))
      (pss_one (ps_if (pt_cmpR (kNe (K := K) hu) (pv 2) (pv 1) rfl) (pss_one (ps_raise PySem.F.excBase_ValueError (by decide) X_BadText.q rfl X_BadText.m (pa_cons (pe_fstr (pj_cons (pp_repr (pv 1)) (pj_cons (pp_str (by decide)) (pj_cons (pp_repr (pv 2)) (pj_cons (pp_str (by decide)) pj_nil))))) pa_nil))) pss_nil))), ?_⟩
  refine mth hR rfl (fun _ _ => rfl) ⟨R, i, rfl, hR, g.len, fun H1 b1 hR1 => ?_⟩
  refine ⟨_, rfl, _, rfl, .inl ⟨rfl, _, rfl, ?_⟩⟩
  rw [tx_dec]
  by_cases e : ahead R.ws i = x
  · have eo : ((expect R.ws x i).map fun j => ((), j)) = some ((), i + 1) := by rw [expect, if_pos e]; rfl
    rw [decide_eq_true e]
    exact ifF (by decide) (q.1 () (i + 1) .non H1 eo b1 hR1 rfl)
  · have eo : ((expect R.ws x i).map fun j => ((), j)) = none := by rw [expect, if_neg e]; rfl
    rw [decide_eq_false e]
    refine ifT (by decide) ?_
    have hr1 : (reprText (tx x)).length ≤ 1000000 := Nat.le_trans (repr_short hx8) (by omega)
    exact ⟨_, rfl, _, rfl, hr1, _, rfl, _, rfl, g.repr i, fun z hz => ⟨by show 1 ≤ sizeLine; decide, q.2 eo H1⟩⟩
def spReadName (C cT : Addr) : Sp := fun vs H Q E => ∃ R i, vs = [.ref R.a] ∧ RAt C H R i ∧ Good R.ws ∧ Ret C cT R H (rName K10.isName R.ws i) (fun _ x r => r = .str (tx x)) Q E
theorem ok_read_name (F : Fun K "read_name" "Reader.read_name" s_read_name (mf "read_name") (md "read_name")) (RC : RCls K C mf md) (X_BadText : XCls K mg "BadText" cT) (G_take : FnOk P w K mg base CX0 2 (mf "take") (md "take") ["self"] (spTake C))
    (G_is_name : FnOk P w K mg base CX0 2 f_is_name d_is_name ["word"] K10.spName) (b_is_name : Binds K d_is_name ["word"] []) (k_is_name : PySem.W.keepIn K (.ref f_is_name) = true) (m_is_name : mg "is_name" = some (.ref f_is_name)) :
    FnOk P w K mg base (CXr P w) 3 (mf "read_name") (md "read_name") ["self"] (spReadName C cT) := by
  refine F.okX sc_read_name (fun vs H Q E h => ?_) (fun cdv A outer s H vs Q E hr h => ?_)
  · obtain ⟨R, i, rfl, _⟩ := h
    rfl
  obtain ⟨R, i, rfl, hR, g, q⟩ := h
  have nd := sc_read_name.nd
  have hu := hr.units0
  refine ⟨_, (pss_cons (ps_set (i := 1) nd rfl (Or.inl rfl) (pe_meth0 (pv 0) RC.cl RC.m_take G_take (hr.mono (by omega)) RC.b_take .nil pass0 ))
      (pss_cons (ps_if (pt_not (k_truth (K := K) (pe_call G_is_name (hr.mono (by first | decide | omega)) rfl m_is_name k_is_name b_is_name .nil pass0 (pa_cons (pv 1) pa_nil)) (fun _ => rfl))) (pss_one (ps_raise PySem.F.excBase_ValueError (by decide) X_BadText.q rfl X_BadText.m (pa_cons (pe_fstr (pj_cons (pp_str (by decide)) (pj_cons (pp_repr (pv 1)) (pj_cons (pp_str (by decide)) pj_nil)))) pa_nil))) pss_nil)
      (pss_one (ps_ret (pv 1))))), ?_⟩
  refine mth hR rfl (fun _ _ => rfl) ⟨R, i, rfl, hR, g.len, fun H1 b1 hR1 => ?_⟩
  refine ⟨_, rfl, ahead R.ws i, rfl, (g.ahead i).1, fun H2 s2 => ⟨_, rfl, ?_⟩⟩
  have b2 := b1.trans (Same.but s2)
  unfold rName at q
  cases hn : K10.isName (ahead R.ws i) with
  | true =>
    rw [if_pos hn] at q
    exact ifF (by decide) ⟨_, rfl, q.1 _ _ _ H2 rfl b2 (hR1.same s2) rfl⟩
  | false =>
    rw [if_neg (by rw [hn]; decide)] at q
    exact ifT (by decide) ⟨_, rfl, _, rfl, g.repr i, fun z hz => ⟨by show 1 ≤ sizeLine; decide, q.2 rfl H2⟩⟩
def spGoes (C cT : Addr) : Sp := fun vs H Q E => ∃ R i many, vs = [.ref R.a, .int (many : Nat)] ∧ RAt C H R i ∧ Good R.ws ∧ Ret C cT R H (goesOn R.ws many i) (fun _ b r => r = .bl b) Q E
theorem ok_goes_on (F : Fun K "goes_on" "Reader.goes_on" s_goes_on (mf "goes_on") (md "goes_on")) (RC : RCls K C mf md) (X_BadText : XCls K mg "BadText" cT) {t1 : Tok} (m_MOST_LISTED : mg "MOST_LISTED" = some (.int 4 t1))
    (G_ahead : FnOk P w K mg base CX0 1 (mf "ahead") (md "ahead") ["self"] (spAhead C)) (G_take : FnOk P w K mg base CX0 2 (mf "take") (md "take") ["self"] (spTake C)) (G_expect : FnOk P w K mg base (CXr P w) 3 (mf "expect") (md "expect") ["self", "wanted"] (spExpect C cT)) :
    FnOk P w K mg base (CXr P w) 4 (mf "goes_on") (md "goes_on") ["self", "many"] (spGoes C cT) := by
  refine F.okX sc_goes_on (fun vs H Q E h => ?_) (fun cdv A outer s H vs Q E hr h => ?_)
  · obtain ⟨R, i, many, rfl, _⟩ := h
    rfl
  obtain ⟨R, i, many, rfl, hR, g, q⟩ := h
  have nd := sc_goes_on.nd
  have hu := hr.units0
  refine ⟨_, (pss_cons (ps_if (pt_cmpR (kEq (K := K) hu) (pe_meth0 (pv 0) RC.cl RC.m_ahead G_ahead (hr.mono (by omega)) RC.b_ahead .nil pass0 ) pe_str rfl) (pss_cons (ps_expr (pe_meth0 (pv 0) RC.cl RC.m_take G_take (hr.mono (by omega)) RC.b_take .nil pass0 ))
      (pss_one (ps_ret pe_bl))) pss_nil)
      (pss_cons (ps_if (pt_cmpR (kEq (K := K) hu) (pv 1) (pe_glob (v := .int 4) rfl m_MOST_LISTED ⟨_, rfl⟩) rfl) (pss_one (ps_raise PySem.F.excBase_ValueError (by decide) X_BadText.q rfl X_BadText.m (pa_cons (pe_fstr (pj_cons (pp_str (by decide)) (pj_cons (pp_int (pe_glob (v := .int 4) rfl m_MOST_LISTED ⟨_, rfl⟩)) (pj_cons (pp_str (by decide)) pj_nil)))) pa_nil))) pss_nil)
      (pss_cons (ps_cut (ps_if (pt_cmpR op_gt (pv 1) pe_int rfl) (pss_one (ps_expr (pe_meth (pv 0) RC.cl RC.m_expect G_expect (hr.mono (by omega)) RC.b_expect .nil pass_out (pa_cons pe_str pa_nil)))) pss_nil))
      (pss_one (ps_ret pe_bl))))), ?_⟩
  unfold goesOn at q
  refine mth hR rfl (fun _ _ => rfl) ⟨R, i, rfl, hR, g.len, .inl ⟨rfl, _, rfl, ?_⟩⟩
  rw [K10.eq_lit (l := wShut) (by decide +kernel)]
  by_cases e : ahead R.ws i = wShut
  · rw [if_pos e] at q
    rw [decide_eq_true e]
    refine ifT rfl (mth hR rfl (fun _ _ => rfl) ⟨R, i, rfl, hR, g.len, fun H1 b1 hR1 => ?_⟩)
    exact q.1 false (i + 1) _ H1 rfl b1 hR1 rfl
  rw [if_neg e] at q
  rw [decide_eq_false e]
  refine ifF (by decide) ⟨_, rfl, .inl ⟨rfl, _, rfl, ?_⟩⟩
  by_cases e4 : many = 4
  · rw [if_pos e4] at q
    subst e4
    exact ifT (by decide) ⟨_, rfl, by decide, by decide +kernel, fun z hz => ⟨by show 1 ≤ sizeLine; decide, q.2 rfl H⟩⟩
  rw [if_neg e4] at q
  refine ifF (fun h => e4 (by have := of_decide_eq_true h; injection this with h; omega)) ?_
  by_cases e0 : 0 < many
  · rw [if_pos e0] at q
    refine ⟨fun σ' H' => σ' = [some (.ref R.a), some (.int (many : Nat))] ∧ But R.a H H' ∧ ahead R.ws i = wComma ∧ RAt C H' R (i + 1), ?_, ?_⟩
    · refine ⟨_, rfl, _, _, rfl, rfl, _, rfl, ifT (decide_eq_true (by omega)) ?_⟩
      refine mth hR rfl (fun _ _ => rfl) ⟨R, i, _, wComma, rfl, by decide +kernel, by decide, by decide, hR, g, fun x j r H1 eo b1 hR1 hr1 => ?_, fun eo H1 => ?_⟩
      · obtain ⟨j', he, ej⟩ := Option.map_eq_some_iff.mp eo
        obtain ⟨e1, rfl⟩ := expect_some he
        cases ej
        exact ⟨rfl, b1, e1, hR1⟩
      · have eo' : expect R.ws wComma i = none := Option.map_eq_none_iff.mp eo
        rw [eo'] at q
        exact q.2 rfl H1
    · rintro σ' H1 ⟨rfl, b1, e1, hR1⟩
      have eo : expect R.ws wComma i = some (i + 1) := by rw [expect, if_pos e1]
      rw [eo] at q
      exact q.1 true (i + 1) _ H1 rfl b1 hR1 rfl
  · rw [if_neg e0] at q
    refine ⟨fun σ' H' => σ' = [some (.ref R.a), some (.int (many : Nat))] ∧ H' = H, ?_, ?_⟩
    · exact ⟨_, rfl, _, _, rfl, rfl, _, rfl, ifF (fun h => e0 (by have := of_decide_eq_true h; omega)) ⟨rfl, rfl⟩⟩
    · rintro σ' H1 ⟨rfl, rfl⟩
      exact q.1 true i _ H1 rfl But.refl hR rfl
end
end RD
set_option maxHeartbeats 4000000
namespace RD
open PySem L2
seal PE PT PW PA PS PSs PTs PI PG PGs PO
abbrev s_read_terms : Stmt := inClass (top 39) 8
abbrev s_read_term : Stmt := inClass (top 39) 10
abbrev s_strength_behind : Stmt := top 38
abbrev s_refuse_side_by_side : Stmt := inClass (top 39) 12
theorem sc_read_terms : FnScope ["self", "level", "terms"] ["self", "level"] (defScope s_read_terms) := ⟨rfl, rfl, rfl, by decide +kernel, rfl, by decide +kernel, by decide +kernel⟩
theorem sc_read_term : FnScope ["self", "level"] ["self", "level"] (defScope s_read_term) := ⟨rfl, rfl, rfl, by decide +kernel, rfl, by decide +kernel, by decide +kernel⟩
theorem sc_strength_behind : FnScope ["sign"] ["sign"] (defScope s_strength_behind) := ⟨rfl, rfl, rfl, by decide +kernel, rfl, by decide +kernel, by decide +kernel⟩
theorem sc_refuse_side_by_side : FnScope ["self", "sign"] ["self", "sign"] (defScope s_refuse_side_by_side) := ⟨rfl, rfl, rfl, by decide +kernel, rfl, by decide +kernel, by decide +kernel⟩
theorem same_new {H : Hp} {p : Addr} (h : H p = none) (o : HO) : Same H (upd H p o) := fun b u q => by rw [upd_ne (ne_of_none q h)]; exact q
structure NoG (mg : Str → Option Value) : Prop extends K10.NoG mg where
  tuple_ : mg "tuple" = none
  int_ : mg "int" = none
  any_ : mg "any" = none
  sum_ : mg "sum" = none
  bool_ : mg "bool" = none
theorem goesOn_st {ws : List Wd} {many i j : Nat} (h : goesOn ws many i = some (true, j)) : i ≤ j ∧ stAt ws j = stAt ws i ∧ many ≠ 4 := by
  unfold goesOn at h
  split at h
  · cases h
  · split at h
    · cases h
    · rename_i h4
      split at h
      · cases he : expect ws wComma i with
        | none => rw [he] at h; cases h
        | some k =>
          rw [he] at h
          cases h
          have := expect_bal he (by simp) (by decide)
          exact ⟨Nat.le_of_lt this.1, this.2.1, h4⟩
      · cases h; exact ⟨Nat.le_refl _, rfl, h4⟩
abbrev rowN (ws : List Wd) (n : Nat) := (both K10.isNum K10.isName ws n).1
abbrev opdN (ws : List Wd) (n : Nat) := (both K10.isNum K10.isName ws n).2
def Pre (k : Int) (n level : Nat) (ws : List Wd) (i : Nat) : Prop := (33 : Int) ≤ n + level + stAt ws i + k ∧ ∀ j, stAt ws j ≤ 16
theorem plainK : Plain K10.isNum K10.isName where
  num := fun w h => by
    cases w with
    | nil => exact absurd h (by decide)
    | cons c r =>
      refine ⟨by simp, ?_⟩
      have hc : K10.figure c = true := by
        unfold K10.isNum at h
        simp at h
        exact h.2.1.1
      unfold delta
      rw [if_neg (fun e => by injection e with e _; subst e; exact absurd hc (by decide)), if_neg (fun e => by injection e with e _; subst e; exact absurd hc (by decide))]
      rfl
  name := fun w h => by
    cases w with
    | nil => exact absurd h (by decide)
    | cons c r =>
      refine ⟨by simp, ?_⟩
      have hc : K10.letter c = true := by
        unfold K10.isName at h
        simp at h
        exact h.2.1
      unfold delta
      rw [if_neg (fun e => by injection e with e _; subst e; exact absurd hc (by decide)), if_neg (fun e => by injection e with e _; subst e; exact absurd hc (by decide))]
      rfl
section
variable {P : Program} {w : World} {K : PySem.W.Frag} {mg : Str → Option Value} {base : Heap} {C cT : Addr} {mf : Str → Addr} {md : Str → FuncData} {f_is_name : Addr} {d_is_name : FuncData} {f : Addr} {fd : FuncData} {sd cm : Addr}
theorem but_new {p l : Addr} {H H' : Hp} {o : HO} (b : But p H H') (h : H l = none) : But p H (upd H' l o) := fun c u n e => by rw [upd_ne (ne_of_none e h)]; exact b c u n e
def spNames (C cT : Addr) : Sp := fun vs H Q E => ∃ R i, vs = [.ref R.a] ∧ RAt C H R i ∧ Good R.ws ∧ Ret C cT R H (rNames K10.isName R.ws i) (fun H' xs r => ∃ p, r = .ref p ∧ H' p = some (.tup (wds xs))) Q E
theorem ok_read_names (F : Fun K "read_names" "Reader.read_names" s_read_names (mf "read_names") (md "read_names")) (B : NoG mg) (RC : RCls K C mf md)
    (G_expect : FnOk P w K mg base (CXr P w) 3 (mf "expect") (md "expect") ["self", "wanted"] (spExpect C cT)) (G_goes_on : FnOk P w K mg base (CXr P w) 4 (mf "goes_on") (md "goes_on") ["self", "many"] (spGoes C cT))
    (G_read_name : FnOk P w K mg base (CXr P w) 3 (mf "read_name") (md "read_name") ["self"] (spReadName C cT)) :
    FnOk P w K mg base (CXr P w) 5 (mf "read_names") (md "read_names") ["self"] (spNames C cT) := by
  refine F.okX sc_read_names (fun vs H Q E h => ?_) (fun cdv A outer s H vs Q E hr h => ?_)
  · obtain ⟨R, i, rfl, _⟩ := h
    rfl
  obtain ⟨R, i, rfl, hR, g, q⟩ := h
  have nd := sc_read_names.nd
  have hu := hr.units0
  have zz : (10 : Nat) < sizeLine := by decide
  refine ⟨_, (pss_cons (ps_expr (pe_meth (pv 0) RC.cl RC.m_expect G_expect (hr.mono (by omega)) RC.b_expect .nil pass_out (pa_cons pe_str pa_nil)))
      (pss_cons (ps_set (i := 1) nd rfl (Or.inl rfl) (pe_lst pa_nil))
      (pss_cons (ps_while PassesOwn.leaving (k_truth (K := K) (pe_meth (pv 0) RC.cl RC.m_goes_on G_goes_on (hr.mono (by omega)) RC.b_goes_on .nil pass_out (pa_cons (pe_callB (k_len (K := K)) rfl B.len_ bt_len (pa_cons (pv 1) pa_nil)) pa_nil)) (fun _ => rfl)) (pss_one (ps_expr (k_bm (K := K) PySem.F.plainAttrs_list PySem.F.slot_list_append PySem.F.type_list_append mt_append (pv 1) (pa_cons (pe_meth0 (pv 0) RC.cl RC.m_read_name G_read_name (hr.mono (by omega)) RC.b_read_name .nil pass_out ) pa_nil)))))
      (pss_one (ps_ret (pe_callTy (k_tuple (K := K)) rfl B.tuple_ bt_tuple (pa_cons (pv 1) pa_nil))))))), ?_⟩
  unfold rNames at q
  refine mth hR rfl (fun _ _ => rfl) ⟨R, i, _, wOpen, rfl, by decide +kernel, by decide, by decide, hR, g, fun x j r H1 eo b1 hR1 hr1 => ?_, fun eo H1 => ?_⟩
  case refine_2 =>
    rw [Option.map_eq_none_iff.mp eo] at q
    exact q.2 rfl H1
  obtain ⟨j', he, ej⟩ := Option.map_eq_some_iff.mp eo
  cases ej
  rw [he] at q
  simp only [Option.bind_some] at q
  have q := q.from b1
  refine ⟨(by show 0 ≤ sizeLine; decide), fun nl hnl => ?_⟩
  have hln : R.l ≠ nl := by
    obtain ⟨dx, _, h2⟩ := hR1
    exact ne_of_none h2 hnl
  obtain ⟨oo, hoo⟩ : ∃ oo, listed R.ws (rName K10.isName R.ws) 5 [] j = oo := ⟨_, rfl⟩
  rw [hoo] at q
  refine ⟨fun m σ H' => ∃ (n k : Nat) (acc : List Wd), σ = [some (.ref R.a), some (.ref nl)] ∧ But R.a H1 H' ∧ RAt C H' R k ∧ H' nl = some (.lst (wds acc)) ∧ listed R.ws (rName K10.isName R.ws) n acc k = oo ∧ n + acc.length = 5 ∧ 1 ≤ n ∧ m = n,
    ⟨5, 5, j, [], rfl, Same.but (same_new hnl _), hR1.same (same_new hnl _), upd_same, hoo, rfl, by decide, rfl⟩, ?_⟩
  rintro m σ H3 ⟨_, k, acc, rfl, b3, hR3, hn3, ho, hna, h1n, rfl⟩
  obtain ⟨n, rfl⟩ : ∃ n', m = n' + 1 := ⟨m - 1, by omega⟩
  unfold listed at ho
  refine mth hR3 rfl (fun _ _ => rfl) ⟨_, rfl, _, _, rfl, .inl ⟨_, SqL.of hn3, rfl⟩, R, k, acc.length, ?_, hR3, g, fun b j2 r H4 eo b4 hR4 hr4 => ?_, fun eo H4 => ?_⟩
  · simp only [List.length_map]; rfl
  · subst hr4
    rw [eo] at ho
    have hn4 := hR3.keep b4 hn3
    refine ⟨b, rfl, ?_⟩
    cases b with
    | false =>
      refine ifF (by decide) ?_
      refine ⟨_, rfl, nl, _, rfl, .inl ⟨SqL.of hn4, fun p hp => ?_⟩⟩
      exact q.1 acc j2 _ _ ho.symm ((b3.trans b4).trans (Same.but (same_new hp _))) (hR4.same (same_new hp _)) ⟨p, rfl, upd_same⟩
    | true =>
      obtain ⟨_, _, h4⟩ := goesOn_st eo
      refine ifT rfl ⟨_, fun _ _ h => h, ?_⟩
      refine ⟨_, rfl, .inl ⟨rfl, _, SqL.of hn4⟩, mth hR4 rfl (fun _ _ => rfl) ⟨R, j2, rfl, hR4, g, fun x j3 r H5 eo2 b5 hR5 hr5 => ?_, fun eo2 H5 => ?_⟩⟩
      · subst hr5
        have hn5 := hR4.keep b5 hn4
        refine ⟨nl, _, _, rfl, rfl, hn5, by rw [List.length_map]; omega, ?_⟩
        refine ⟨n, Nat.lt_succ_self _, n, j3, acc ++ [x], rfl, but_new ((b3.trans b4).trans b5) hnl, hR5.list hn5 hln, ?_, ?_, by simp; omega, by omega, rfl⟩
        · rw [upd_same]; simp [wds]
        · rw [← ho]
          dsimp only
          rw [eo2]
      · dsimp only at ho
        rw [eo2] at ho
        exact q.2 ho.symm H5
  · rw [eo] at ho
    exact q.2 ho.symm H4
end
end RD
set_option maxHeartbeats 4000000
namespace RD
open PySem L2
seal PE PT PW PA PS PSs PTs PI PG PGs PO
abbrev s_read_named : Stmt := inClass (top 39) 19
abbrev s_read_tight : Stmt := inClass (top 39) 18
abbrev s_read_if : Stmt := inClass (top 39) 15
abbrev s_read_let : Stmt := inClass (top 39) 16
abbrev s_read_fn : Stmt := inClass (top 39) 17
abbrev s_read_tight_or_wide : Stmt := inClass (top 39) 14
theorem sc_read_named : FnScope ["self", "name", "level"] ["self", "name", "level"] (defScope s_read_named) := ⟨rfl, rfl, rfl, by decide +kernel, rfl, by decide +kernel, by decide +kernel⟩
theorem sc_read_tight : FnScope ["self", "level", "word", "term"] ["self", "level"] (defScope s_read_tight) := ⟨rfl, rfl, rfl, by decide +kernel, rfl, by decide +kernel, by decide +kernel⟩
theorem sc_read_if : FnScope ["self", "level", "asked", "chosen"] ["self", "level"] (defScope s_read_if) := ⟨rfl, rfl, rfl, by decide +kernel, rfl, by decide +kernel, by decide +kernel⟩
theorem sc_read_let : FnScope ["self", "level", "name", "meant"] ["self", "level"] (defScope s_read_let) := ⟨rfl, rfl, rfl, by decide +kernel, rfl, by decide +kernel, by decide +kernel⟩
theorem sc_read_fn : FnScope ["self", "level", "name"] ["self", "level"] (defScope s_read_fn) := ⟨rfl, rfl, rfl, by decide +kernel, rfl, by decide +kernel, by decide +kernel⟩
theorem sc_read_tight_or_wide : FnScope ["self", "level", "word"] ["self", "level"] (defScope s_read_tight_or_wide) := ⟨rfl, rfl, rfl, by decide +kernel, rfl, by decide +kernel, by decide +kernel⟩
section
variable {P : Program} {w : World} {K : PySem.W.Frag} {mg : Str → Option Value} {base : Heap} {C cT : Addr} {mf : Str → Addr} {md : Str → FuncData} {f_is_name f_is_number : Addr} {d_is_name d_is_number : FuncData} {n : Nat}
def spRow (C cT : Addr) (n : Nat) : Sp := fun vs H Q E => ∃ R i least level, vs = [.ref R.a, .int (least : Nat), .int (level : Nat)] ∧ RAt C H R i ∧ Good R.ws ∧ 1 ≤ least ∧ Pre 0 n level R.ws i ∧ Ret C cT R H (rowN R.ws n least level i) TmAt Q E
def spTerm (C cT : Addr) (n : Nat) : Sp := fun vs H Q E => ∃ R i level, vs = [.ref R.a, .int (level : Nat)] ∧ RAt C H R i ∧ Good R.ws ∧ Pre 0 n level R.ws i ∧ Ret C cT R H (rowN R.ws n 1 level i) TmAt Q E
theorem ok_read_term (F : Fun K "read_term" "Reader.read_term" s_read_term (mf "read_term") (md "read_term")) (RC : RCls K C mf md) {t1 : Tok} (m_LEAST_STRENGTH : mg "LEAST_STRENGTH" = some (.int 1 t1))
    (G_read_row : FnOk P w K mg base (CXr P w) (7 * n + 6) (mf "read_row") (md "read_row") ["self", "least", "level"] (spRow C cT n)) : FnOk P w K mg base (CXr P w) (7 * n + 7) (mf "read_term") (md "read_term") ["self", "level"] (spTerm C cT n) := by
  refine F.okX sc_read_term (fun vs H Q E h => ?_) (fun cdv A outer s H vs Q E hr h => ?_)
  · obtain ⟨R, i, level, rfl, _⟩ := h
    rfl
  obtain ⟨R, i, level, rfl, hR, g, pre, q⟩ := h
  have nd := sc_read_term.nd
  refine ⟨_, (pss_one (ps_ret (pe_meth (pv 0) RC.cl RC.m_read_row G_read_row (hr.mono (by omega)) RC.b_read_row .nil pass_out (pa_cons (pe_glob (v := .int 1) rfl m_LEAST_STRENGTH ⟨_, rfl⟩) (pa_cons (pv 1) pa_nil))))), ?_⟩
  exact mth hR rfl (fun _ _ => rfl) ⟨_, rfl, R, i, 1, level, rfl, hR, g, Nat.le_refl 1, pre, q⟩
def spTerms (C cT : Addr) (n : Nat) : Sp := fun vs H Q E => ∃ R i level, vs = [.ref R.a, .int (level : Nat)] ∧ RAt C H R i ∧ Good R.ws ∧ Pre 1 n level R.ws i ∧ Ret C cT R H (rTerms R.ws (rowN R.ws n) level i) (fun H' ts r => ∃ p vs, r = .ref p ∧ H' p = some (.tup vs) ∧ TmsAt H' ts vs) Q E
theorem ok_read_terms (F : Fun K "read_terms" "Reader.read_terms" s_read_terms (mf "read_terms") (md "read_terms")) (B : NoG mg) (RC : RCls K C mf md)
    (G_expect : FnOk P w K mg base (CXr P w) 3 (mf "expect") (md "expect") ["self", "wanted"] (spExpect C cT)) (G_goes_on : FnOk P w K mg base (CXr P w) 4 (mf "goes_on") (md "goes_on") ["self", "many"] (spGoes C cT))
    (G_read_term : FnOk P w K mg base (CXr P w) (7 * n + 7) (mf "read_term") (md "read_term") ["self", "level"] (spTerm C cT n)) :
    FnOk P w K mg base (CXr P w) (7 * n + 8) (mf "read_terms") (md "read_terms") ["self", "level"] (spTerms C cT n) := by
  refine F.okX sc_read_terms (fun vs H Q E h => ?_) (fun cdv A outer s H vs Q E hr h => ?_)
  · obtain ⟨R, i, level, rfl, _⟩ := h
    rfl
  obtain ⟨R, i, level, rfl, hR, g, pre, q⟩ := h
  have nd := sc_read_terms.nd
  have hu := hr.units0
  have zz : (10 : Nat) < sizeLine := by decide
  refine ⟨_, (pss_cons (ps_expr (pe_meth (pv 0) RC.cl RC.m_expect G_expect (hr.mono (by omega)) RC.b_expect .nil pass_out (pa_cons pe_str pa_nil)))
      (pss_cons (ps_set (i := 2) nd rfl (Or.inl rfl) (pe_lst pa_nil))
      (pss_cons (ps_while PassesOwn.leaving (k_truth (K := K) (pe_meth (pv 0) RC.cl RC.m_goes_on G_goes_on (hr.mono (by omega)) RC.b_goes_on .nil pass_out (pa_cons (pe_callB (k_len (K := K)) rfl B.len_ bt_len (pa_cons (pv 2) pa_nil)) pa_nil)) (fun _ => rfl)) (pss_one (ps_expr (k_bm (K := K) PySem.F.plainAttrs_list PySem.F.slot_list_append PySem.F.type_list_append mt_append (pv 2) (pa_cons (pe_meth (pv 0) RC.cl RC.m_read_term G_read_term (hr.mono (by omega)) RC.b_read_term .nil pass_out (pa_cons (pv 1) pa_nil)) pa_nil)))))
      (pss_one (ps_ret (pe_callTy (k_tuple (K := K)) rfl B.tuple_ bt_tuple (pa_cons (pv 2) pa_nil))))))), ?_⟩
  unfold rTerms at q
  refine mth hR rfl (fun _ _ => rfl) ⟨R, i, _, wOpen, rfl, by decide +kernel, by decide, by decide, hR, g, fun x j r H1 eo b1 hR1 hr1 => ?_, fun eo H1 => ?_⟩
  case refine_2 =>
    rw [Option.map_eq_none_iff.mp eo] at q
    exact q.2 rfl H1
  obtain ⟨j', he, ej⟩ := Option.map_eq_some_iff.mp eo
  cases ej
  have hst := (open_st he).2
  rw [he] at q
  simp only [Option.bind_some] at q
  have q := q.from b1
  refine ⟨(by show 0 ≤ sizeLine; decide), fun nl hnl => ?_⟩
  have hln : R.l ≠ nl := by
    obtain ⟨dx, _, h2⟩ := hR1
    exact ne_of_none h2 hnl
  obtain ⟨oo, hoo⟩ : ∃ oo, listed R.ws (rowN R.ws n 1 level) 5 [] j = oo := ⟨_, rfl⟩
  rw [hoo] at q
  refine ⟨fun m σ H' => ∃ (n' k : Nat) (acc : List Tm) (vs : List V), σ = [some (.ref R.a), some (.int (level : Nat)), some (.ref nl)] ∧ But R.a H1 H' ∧ RAt C H' R k ∧ H' nl = some (.lst vs) ∧ TmsAt H' acc vs ∧ stAt R.ws k = stAt R.ws i + 1 ∧ listed R.ws (rowN R.ws n 1 level) n' acc k = oo ∧ n' + acc.length = 5 ∧ 1 ≤ n' ∧ m = n',
    ⟨5, 5, j, [], [], rfl, Same.but (same_new hnl _), hR1.same (same_new hnl _), upd_same, .nil, hst, hoo, rfl, by decide, rfl⟩, ?_⟩
  rintro m σ H3 ⟨_, k, acc, vs, rfl, b3, hR3, hn3, hT3, hst3, ho, hna, h1n, rfl⟩
  obtain ⟨m, rfl⟩ : ∃ n', m = n' + 1 := ⟨m - 1, by omega⟩
  have hvl := hT3.len
  unfold listed at ho
  refine mth hR3 rfl (fun _ _ => rfl) ⟨_, rfl, _, _, rfl, .inl ⟨_, SqL.of hn3, rfl⟩, R, k, acc.length, by rw [hvl]; rfl, hR3, g, fun b j2 r H4 eo b4 hR4 hr4 => ?_, fun eo H4 => ?_⟩
  · subst hr4
    rw [eo] at ho
    have hn4 := hR3.keep b4 hn3
    have hT4 := hT3.mono (hR3.tups b4)
    refine ⟨b, rfl, ?_⟩
    cases b with
    | false =>
      refine ifF (by decide) ?_
      refine ⟨_, rfl, nl, _, rfl, .inl ⟨SqL.of hn4, fun p hp => ?_⟩⟩
      have s5 := same_new hp (.tup vs)
      exact q.1 acc j2 _ _ ho.symm ((b3.trans b4).trans (Same.but s5)) (hR4.same s5) ⟨p, vs, rfl, upd_same, hT4.mono (BU.tups_of s5)⟩
    | true =>
      obtain ⟨_, hst4, h4⟩ := goesOn_st eo
      refine ifT rfl ⟨_, fun _ _ h => h, ?_⟩
      refine ⟨_, rfl, .inl ⟨rfl, _, SqL.of hn4⟩, mth hR4 rfl (fun _ _ => rfl) ⟨_, rfl, R, j2, level, rfl, hR4, g, ⟨by have := pre.1; omega, pre.2⟩, fun x j3 r H5 eo2 b5 hR5 hr5 => ?_, fun eo2 H5 => ?_⟩⟩
      · have hn5 := hR4.keep b5 hn4
        have hb := (both_bal (ws := R.ws) plainK n).1 1 level j2 _ (Nat.le_refl 1) eo2
        refine ⟨nl, _, _, rfl, rfl, hn5, by omega, ?_⟩
        have t6 : BU.Tups H5 (upd H5 nl (.lst (vs ++ [r]))) := .lst hn5 _
        refine ⟨m, Nat.lt_succ_self _, m, j3, acc ++ [x], vs ++ [r], rfl, but_new ((b3.trans b4).trans b5) hnl, hR5.list hn5 hln, upd_same, ((hT4.mono (hR4.tups b5)).snoc hr5).mono t6, ?_, ?_, by simp; omega, by omega, rfl⟩
        · have : stAt R.ws j3 = stAt R.ws j2 := hb.2.1
          omega
        · rw [← ho]
          dsimp only
          rw [eo2]
      · dsimp only at ho
        rw [eo2] at ho
        exact q.2 ho.symm H5
  · rw [eo] at ho
    exact q.2 ho.symm H4
def spNamed (C cT : Addr) (n : Nat) : Sp := fun vs H Q E => ∃ R i x level, vs = [.ref R.a, .str (tx x), .int (level : Nat)] ∧ RAt C H R i ∧ Good R.ws ∧ Pre 1 n level R.ws i ∧ Ret C cT R H (rNamed R.ws (rowN R.ws n) x level i) TmAt Q E
theorem ok_read_named (F : Fun K "read_named" "Reader.read_named" s_read_named (mf "read_named") (md "read_named")) (RC : RCls K C mf md)
    (G_ahead : FnOk P w K mg base CX0 1 (mf "ahead") (md "ahead") ["self"] (spAhead C)) (G_read_terms : FnOk P w K mg base (CXr P w) (7 * n + 8) (mf "read_terms") (md "read_terms") ["self", "level"] (spTerms C cT n)) :
    FnOk P w K mg base (CXr P w) (7 * n + 9) (mf "read_named") (md "read_named") ["self", "name", "level"] (spNamed C cT n) := by
  refine F.okX sc_read_named (fun vs H Q E h => ?_) (fun cdv A outer s H vs Q E hr h => ?_)
  · obtain ⟨R, i, x, level, rfl, _⟩ := h
    rfl
  obtain ⟨R, i, x, level, rfl, hR, g, pre, q⟩ := h
  have nd := sc_read_named.nd
  have hu := hr.units0
  refine ⟨_, (pss_cons (ps_if (pt_cmpR (kEq (K := K) hu) (pe_meth0 (pv 0) RC.cl RC.m_ahead G_ahead (hr.mono (by omega)) RC.b_ahead .nil pass0 ) pe_str rfl) (pss_one (ps_ret (pe_tup (pa_cons pe_str (pa_cons (pv 1) (pa_cons (pe_meth (pv 0) RC.cl RC.m_read_terms G_read_terms (hr.mono (by omega)) RC.b_read_terms .nil pass_out (pa_cons (pe_op uAdd (pv 2) pe_int) pa_nil)) pa_nil)))))) pss_nil)
      (pss_one (ps_ret (pe_tup (pa_cons pe_str (pa_cons (pv 1) pa_nil)))))), ?_⟩
  unfold rNamed at q
  refine mth hR rfl (fun _ _ => rfl) ⟨R, i, rfl, hR, g.len, .inl ⟨rfl, _, rfl, ?_⟩⟩
  rw [K10.eq_lit (l := wOpen) (by decide +kernel)]
  by_cases e : ahead R.ws i = wOpen
  · rw [if_pos e] at q
    rw [decide_eq_true e]
    refine ifT rfl ⟨_, rfl, mth hR rfl (fun _ _ => rfl) ⟨_, rfl, .inl ⟨_, _, rfl, rfl, R, i, level + 1, rfl, hR, g, ⟨by have := pre.1; omega, pre.2⟩, fun ts j r H1 eo b1 hR1 hr1 => ?_, fun eo H1 => ?_⟩⟩⟩
    · obtain ⟨c, vs, rfl, hc, hts⟩ := hr1
      rw [eo] at q
      refine ⟨by show 3 ≤ sizeLine; decide, fun p hp => ?_⟩
      have s2 := same_new hp (.tup [.str "call", .str (tx x), .ref c])
      exact q.1 _ _ _ _ rfl (b1.trans (Same.but s2)) (hR1.same s2) (.call upd_same (s2 _ _ hc) (hts.mono (BU.tups_of s2)))
    · rw [eo] at q
      exact q.2 rfl H1
  · rw [if_neg e] at q
    rw [decide_eq_false e]
    refine ifF (by decide) ⟨_, rfl, by show 2 ≤ sizeLine; decide, fun p hp => ?_⟩
    have s2 := same_new hp (.tup [.str "name", .str (tx x)])
    exact q.1 _ _ _ _ rfl (Same.but s2) (hR.same s2) (.name upd_same)
end
end RD
set_option maxHeartbeats 4000000
namespace RD
open PySem L2
seal PE PT PW PA PS PSs PTs PI PG PGs PO
theorem in_yesno (x : Wd) : inV (.str (tx x)) [.str "yes", .str "no"] = (decide (x = wYes) || decide (x = wNo)) := by
  have h1 : ("yes" : Str) = tx wYes := by decide +kernel
  have h2 : ("no" : Str) = tx wNo := by decide +kernel
  unfold inV
  rw [h1, h2, Bool.eq_iff_iff, List.any_eq_true]
  simp only [List.mem_cons, List.not_mem_nil, or_false, Bool.or_eq_true, decide_eq_true_eq]
  constructor
  · rintro ⟨y, rfl | rfl, e⟩
    · exact .inl (tx_inj (by simpa [eqV] using e)).symm
    · exact .inr (tx_inj (by simpa [eqV] using e)).symm
  · rintro (rfl | rfl)
    · exact ⟨_, .inl rfl, by simp [eqV]⟩
    · exact ⟨_, .inr rfl, by simp [eqV]⟩
section
variable {P : Program} {w : World} {K : PySem.W.Frag} {mg : Str → Option Value} {base : Heap} {C cT : Addr} {mf : Str → Addr} {md : Str → FuncData} {f_is_name f_is_number : Addr} {d_is_name d_is_number : FuncData} {n : Nat}
def spTight (C cT : Addr) (n : Nat) : Sp := fun vs H Q E => ∃ R i level, vs = [.ref R.a, .int (level : Nat)] ∧ RAt C H R i ∧ Good R.ws ∧ Pre 1 n level R.ws i ∧ Ret C cT R H (rTight K10.isNum K10.isName R.ws (rowN R.ws n) level i) TmAt Q E
theorem ok_read_tight (F : Fun K "read_tight" "Reader.read_tight" s_read_tight (mf "read_tight") (md "read_tight")) (B : NoG mg) (RC : RCls K C mf md) (X_BadText : XCls K mg "BadText" cT)
    (G_take : FnOk P w K mg base CX0 2 (mf "take") (md "take") ["self"] (spTake C)) (G_expect : FnOk P w K mg base (CXr P w) 3 (mf "expect") (md "expect") ["self", "wanted"] (spExpect C cT))
    (G_read_term : FnOk P w K mg base (CXr P w) (7 * n + 7) (mf "read_term") (md "read_term") ["self", "level"] (spTerm C cT n)) (G_read_named : FnOk P w K mg base (CXr P w) (7 * n + 9) (mf "read_named") (md "read_named") ["self", "name", "level"] (spNamed C cT n))
    (G_is_name : FnOk P w K mg base CX0 2 f_is_name d_is_name ["word"] K10.spName) (b_is_name : Binds K d_is_name ["word"] []) (k_is_name : PySem.W.keepIn K (.ref f_is_name) = true) (m_is_name : mg "is_name" = some (.ref f_is_name))
    (G_is_number : FnOk P w K mg base CX0 2 f_is_number d_is_number ["word"] K10.spNum) (b_is_number : Binds K d_is_number ["word"] []) (k_is_number : PySem.W.keepIn K (.ref f_is_number) = true) (m_is_number : mg "is_number" = some (.ref f_is_number)) :
    FnOk P w K mg base (CXr P w) (7 * n + 10) (mf "read_tight") (md "read_tight") ["self", "level"] (spTight C cT n) := by
  refine F.okX sc_read_tight (fun vs H Q E h => ?_) (fun cdv A outer s H vs Q E hr h => ?_)
  · obtain ⟨R, i, level, rfl, _⟩ := h
    rfl
  obtain ⟨R, i, level, rfl, hR, g, pre, q⟩ := h
  have nd := sc_read_tight.nd
  have hu := hr.units0
  have hr2 : Room 2 _ := hr.mono (by omega)
  refine ⟨_, (pss_cons (ps_set (i := 2) nd rfl (Or.inl rfl) (pe_meth0 (pv 0) RC.cl RC.m_take G_take (hr.mono (by omega)) RC.b_take .nil pass0 ))
      (pss_cons (ps_if (pt_cmpR (kEq (K := K) hu) (pv 2) pe_str rfl) (pss_cons (ps_set (i := 3) nd rfl (Or.inl rfl) (pe_meth (pv 0) RC.cl RC.m_read_term G_read_term (hr.mono (by omega)) RC.b_read_term .nil pass_out (pa_cons (pv 1) pa_nil)))
      (pss_cons (ps_expr (pe_meth (pv 0) RC.cl RC.m_expect G_expect (hr.mono (by omega)) RC.b_expect .nil pass_out (pa_cons pe_str pa_nil)))
      (pss_one (ps_ret (pv 3))))) pss_nil)
      (pss_cons (ps_if (pt_cmpR (kEq (K := K) hu) (pv 2) pe_str rfl) (pss_cons (ps_expr (pe_meth (pv 0) RC.cl RC.m_expect G_expect (hr.mono (by omega)) RC.b_expect .nil pass_out (pa_cons pe_str pa_nil)))
      (pss_one (ps_ret (pe_tup (pa_cons pe_str pa_nil))))) pss_nil)
      (pss_cons (ps_if (pt_cmpR (kIn (K := K) (w := w)) (pv 2) (pe_tup (pa_cons pe_str (pa_cons pe_str pa_nil))) rfl) (pss_one (ps_ret (pe_tup (pa_cons pe_str (pa_cons (pe_cmpR (kEq (K := K) hu) (pv 2) pe_str rfl) pa_nil))))) pss_nil)
      (pss_cons (ps_if (k_truth (K := K) (pe_call G_is_number (hr.mono (by first | decide | omega)) rfl m_is_number k_is_number b_is_number .nil pass0 (pa_cons (pv 2) pa_nil)) (fun _ => rfl)) (pss_one (ps_ret (pe_tup (pa_cons pe_str (pa_cons (pe_callTy call_int_txt rfl B.int_ bt_int (pa_cons (pv 2) pa_nil)) pa_nil))))) pss_nil)
      (pss_cons (ps_if (k_truth (K := K) (pe_call G_is_name (hr.mono (by first | decide | omega)) rfl m_is_name k_is_name b_is_name .nil pass0 (pa_cons (pv 2) pa_nil)) (fun _ => rfl)) (pss_one (ps_ret (pe_meth (pv 0) RC.cl RC.m_read_named G_read_named (hr.mono (by omega)) RC.b_read_named .nil pass_out (pa_cons (pv 2) (pa_cons (pv 1) pa_nil))))) pss_nil)
      (pss_one (ps_raise PySem.F.excBase_ValueError (by decide) X_BadText.q rfl X_BadText.m (pa_cons (pe_fstr (pj_cons (pp_str (by decide)) (pj_cons (pp_repr (pv 2)) pj_nil))) pa_nil))))))))), ?_⟩
  unfold rTight at q
  refine mth hR rfl (fun _ _ => rfl) ⟨R, i, rfl, hR, g.len, fun H1 b1 hR1 => ?_⟩
  have q := q.from b1
  clear hR b1
  refine ⟨_, rfl, .inl ⟨rfl, _, rfl, ?_⟩⟩
  rw [K10.eq_lit (l := wOpen) (by decide +kernel)]
  by_cases e : ahead R.ws i = wOpen
  · rw [if_pos e] at q
    rw [decide_eq_true e]
    have hs1 : stAt R.ws (i + 1) = stAt R.ws i + 1 := (open_st (ws := R.ws) (i := i) (j := i + 1) (by rw [expect, if_pos e])).2
    refine ifT rfl (mth hR1 rfl (fun _ _ => rfl) ⟨_, rfl, R, i + 1, level, rfl, hR1, g, ⟨by have := pre.1; omega, pre.2⟩, fun t j r H2 eo b2 hR2 hr2 => ?_, fun eo H2 => ?_⟩)
    · rw [eo] at q
      simp only [Option.bind_some] at q
      have q := q.from b2
      refine mth hR2 rfl (fun _ _ => rfl) ⟨R, j, _, wShut, rfl, by decide +kernel, by decide, by decide, hR2, g, fun x j3 r3 H3 eo3 b3 hR3 hr3 => ?_, fun eo3 H3 => ?_⟩
      · obtain ⟨j', he, ej⟩ := Option.map_eq_some_iff.mp eo3
        cases ej
        rw [he] at q
        exact ⟨_, rfl, q.1 _ _ _ _ rfl b3 hR3 (hr2.mono (hR2.tups b3))⟩
      · rw [Option.map_eq_none_iff.mp eo3] at q
        exact q.2 rfl H3
    · rw [eo] at q
      exact q.2 rfl H2
  rw [if_neg e] at q
  rw [decide_eq_false e]
  refine ifF (by decide) ⟨_, rfl, .inl ⟨rfl, _, rfl, ?_⟩⟩
  rw [K10.eq_lit (l := wBra) (by decide +kernel)]
  by_cases e : ahead R.ws i = wBra
  · rw [if_pos e] at q
    rw [decide_eq_true e]
    refine ifT rfl (mth hR1 rfl (fun _ _ => rfl) ⟨R, i + 1, _, wKet, rfl, by decide +kernel, by decide, by decide, hR1, g, fun x j3 r3 H3 eo3 b3 hR3 hr3 => ?_, fun eo3 H3 => ?_⟩)
    · obtain ⟨j', he, ej⟩ := Option.map_eq_some_iff.mp eo3
      cases ej
      rw [he] at q
      refine ⟨by show 1 ≤ sizeLine; decide, fun p hp => ?_⟩
      have s2 := same_new hp (.tup [.str "none"])
      exact q.1 _ _ _ _ rfl (b3.trans (Same.but s2)) (hR3.same s2) (.non upd_same)
    · rw [Option.map_eq_none_iff.mp eo3] at q
      exact q.2 rfl H3
  rw [if_neg e] at q
  rw [decide_eq_false e]
  refine ifF (by decide) ⟨_, rfl, by show 2 ≤ sizeLine; decide, fun p hp => .inr (.inl ⟨p, _, rfl, .inr (SqT.of upd_same), rfl, rfl, _, rfl, ?_⟩)⟩
  show if inV (.str (tx (ahead R.ws i))) [.str "yes", .str "no"] = true then _ else _
  rw [in_yesno]
  have s2 := same_new hp (.tup [.str "yes", .str "no"])
  have hR2 := hR1.same s2
  have q := q.from (Same.but s2)
  clear hR1
  generalize upd H1 p (.tup [.str "yes", .str "no"]) = H2 at hR2 q ⊢
  clear hp s2
  by_cases e : (decide (ahead R.ws i = wYes) || decide (ahead R.ws i = wNo)) = true
  · rw [if_pos e] at q
    refine ifT e ⟨_, rfl, .inl ⟨rfl, by show 2 ≤ sizeLine; decide, fun p hp => ?_⟩⟩
    have s2 := same_new hp (.tup [.str "truth", .bl (decide (V.str (tx (ahead R.ws i)) = V.str "yes"))])
    refine q.1 _ _ _ _ rfl (Same.but s2) (hR2.same s2) ?_
    have ey : decide (V.str (tx (ahead R.ws i)) = V.str "yes") = decide (ahead R.ws i = wYes) := K10.eq_lit (l := wYes) (by decide +kernel)
    rw [← ey]
    exact .truth upd_same
  rw [if_neg e] at q
  refine ifF e ⟨_, rfl, ahead R.ws i, rfl, (g.ahead i).1, fun H3 s3 => ⟨_, rfl, ?_⟩⟩
  have hR3 := hR2.same s3
  have q := q.from (Same.but s3)
  clear hR2 s3
  cases hn : K10.isNum (ahead R.ws i) with
  | true =>
    rw [if_pos hn] at q
    have e1 := (g.ahead i).2.2 hn
    refine ifT rfl ⟨_, rfl, .inr ⟨_, rfl, by rw [e1], by show 2 ≤ sizeLine; decide, fun p hp => ?_⟩⟩
    have s2 := same_new hp (.tup [.str "number", .int 1])
    refine q.1 _ _ _ _ rfl (Same.but s2) (hR3.same s2) ?_
    rw [e1]
    exact .num upd_same
  | false =>
    rw [if_neg (by rw [hn]; decide)] at q
    refine ifF (by decide) ⟨_, rfl, ahead R.ws i, rfl, (g.ahead i).1, fun H4 s4 => ⟨_, rfl, ?_⟩⟩
    have hR4 := hR3.same s4
    have q := q.from (Same.but s4)
    cases hm : K10.isName (ahead R.ws i) with
    | true =>
      rw [if_pos hm] at q
      obtain ⟨p1, p2⟩ := plainK.name _ hm
      have hs1 := st_next p1
      refine ifT rfl (mth hR4 rfl (fun _ _ => rfl) ⟨_, rfl, _, rfl, R, i + 1, ahead R.ws i, level, rfl, hR4, g, ⟨by have := pre.1; omega, pre.2⟩, q⟩)
    | false =>
      rw [if_neg (by rw [hm]; decide)] at q
      exact ifF (by decide) ⟨_, rfl, _, rfl, g.repr i, fun z hz => ⟨by show 1 ≤ sizeLine; decide, q.2 rfl H4⟩⟩
def spTW (C cT : Addr) (o : List Wd → Nat → Nat → Option (Tm × Nat)) (n : Nat) : Sp := fun vs H Q E => ∃ R i level, vs = [.ref R.a, .int (level : Nat)] ∧ RAt C H R i ∧ Good R.ws ∧ Pre 1 n level R.ws i ∧ Ret C cT R H (o R.ws level i) TmAt Q E
abbrev ifN (n : Nat) (ws : List Wd) := rIf ws (rowN ws n)
abbrev letN (n : Nat) (ws : List Wd) := rLet K10.isName ws (rowN ws n)
abbrev fnN (n : Nat) (ws : List Wd) := rFn K10.isName ws (rowN ws n)
abbrev twN (n : Nat) (ws : List Wd) := rTW K10.isNum K10.isName ws (rowN ws n)
theorem ok_read_if (F : Fun K "read_if" "Reader.read_if" s_read_if (mf "read_if") (md "read_if")) (RC : RCls K C mf md)
    (G_expect : FnOk P w K mg base (CXr P w) 3 (mf "expect") (md "expect") ["self", "wanted"] (spExpect C cT)) (G_read_term : FnOk P w K mg base (CXr P w) (7 * n + 7) (mf "read_term") (md "read_term") ["self", "level"] (spTerm C cT n)) :
    FnOk P w K mg base (CXr P w) (7 * n + 8) (mf "read_if") (md "read_if") ["self", "level"] (spTW C cT (ifN n) n) := by
  refine F.okX sc_read_if (fun vs H Q E h => ?_) (fun cdv A outer s H vs Q E hr h => ?_)
  · obtain ⟨R, i, level, rfl, _⟩ := h
    rfl
  obtain ⟨R, i, level, rfl, hR, g, pre, q⟩ := h
  have nd := sc_read_if.nd
  refine ⟨_, (pss_cons (ps_expr (pe_meth (pv 0) RC.cl RC.m_expect G_expect (hr.mono (by omega)) RC.b_expect .nil pass_out (pa_cons pe_str pa_nil)))
      (pss_cons (ps_set (i := 2) nd rfl (Or.inl rfl) (pe_meth (pv 0) RC.cl RC.m_read_term G_read_term (hr.mono (by omega)) RC.b_read_term .nil pass_out (pa_cons (pe_op uAdd (pv 1) pe_int) pa_nil)))
      (pss_cons (ps_expr (pe_meth (pv 0) RC.cl RC.m_expect G_expect (hr.mono (by omega)) RC.b_expect .nil pass_out (pa_cons pe_str pa_nil)))
      (pss_cons (ps_set (i := 3) nd rfl (Or.inl rfl) (pe_meth (pv 0) RC.cl RC.m_read_term G_read_term (hr.mono (by omega)) RC.b_read_term .nil pass_out (pa_cons (pe_op uAdd (pv 1) pe_int) pa_nil)))
      (pss_cons (ps_expr (pe_meth (pv 0) RC.cl RC.m_expect G_expect (hr.mono (by omega)) RC.b_expect .nil pass_out (pa_cons pe_str pa_nil)))
      (pss_one (ps_ret (pe_tup (pa_cons pe_str (pa_cons (pv 2) (pa_cons (pv 3) (pa_cons (pe_meth (pv 0) RC.cl RC.m_read_term G_read_term (hr.mono (by omega)) RC.b_read_term .nil pass_out (pa_cons (pe_op uAdd (pv 1) pe_int) pa_nil)) pa_nil)))))))))))), ?_⟩
  unfold ifN rIf at q
  refine mth hR rfl (fun _ _ => rfl) ⟨R, i, _, wIf, rfl, by decide +kernel, by decide, by decide, hR, g, fun x i1 r H1 eo b1 hR1 hr1 => ?_, fun eo H1 => ?_⟩
  case refine_2 => rw [Option.map_eq_none_iff.mp eo] at q; exact q.2 rfl H1
  obtain ⟨j', he, ej⟩ := Option.map_eq_some_iff.mp eo
  cases ej
  have l1 := (expect_bal he (by simp) (by decide)).2.1
  rw [he] at q
  simp only [Option.bind_some] at q
  have q := q.from b1
  refine mth hR1 rfl (fun _ _ => rfl) ⟨_, rfl, .inl ⟨_, _, rfl, rfl, R, i1, level + 1, rfl, hR1, g, ⟨by have := pre.1; omega, pre.2⟩, fun t1 j1 v1 H2 eo b2 hR2 ht1 => ?_, fun eo H2 => ?_⟩⟩
  case refine_2 => rw [eo] at q; exact q.2 rfl H2
  have l2 : stAt R.ws j1 = _ := ((both_bal (ws := R.ws) plainK n).1 1 _ _ _ (Nat.le_refl 1) eo).2.1
  rw [eo] at q
  simp only [Option.bind_some] at q
  have q := q.from b2
  refine mth hR2 rfl (fun _ _ => rfl) ⟨R, j1, _, wThen, rfl, by decide +kernel, by decide, by decide, hR2, g, fun x i2 r H3 eo b3 hR3 hr3 => ?_, fun eo H3 => ?_⟩
  case refine_2 => rw [Option.map_eq_none_iff.mp eo] at q; exact q.2 rfl H3
  obtain ⟨j', he, ej⟩ := Option.map_eq_some_iff.mp eo
  cases ej
  have l3 := (expect_bal he (by simp) (by decide)).2.1
  rw [he] at q
  simp only [Option.bind_some] at q
  have q := q.from b3
  have ht1 := ht1.mono (hR2.tups b3)
  refine mth hR3 rfl (fun _ _ => rfl) ⟨_, rfl, .inl ⟨_, _, rfl, rfl, R, i2, level + 1, rfl, hR3, g, ⟨by have := pre.1; omega, pre.2⟩, fun t2 j2 v2 H4 eo b4 hR4 ht2 => ?_, fun eo H4 => ?_⟩⟩
  case refine_2 => rw [eo] at q; exact q.2 rfl H4
  have l4 : stAt R.ws j2 = _ := ((both_bal (ws := R.ws) plainK n).1 1 _ _ _ (Nat.le_refl 1) eo).2.1
  rw [eo] at q
  simp only [Option.bind_some] at q
  have q := q.from b4
  have ht1 := ht1.mono (hR3.tups b4)
  refine mth hR4 rfl (fun _ _ => rfl) ⟨R, j2, _, wElse, rfl, by decide +kernel, by decide, by decide, hR4, g, fun x i3 r H5 eo b5 hR5 hr5 => ?_, fun eo H5 => ?_⟩
  case refine_2 => rw [Option.map_eq_none_iff.mp eo] at q; exact q.2 rfl H5
  obtain ⟨j', he, ej⟩ := Option.map_eq_some_iff.mp eo
  cases ej
  have l5 := (expect_bal he (by simp) (by decide)).2.1
  rw [he] at q
  simp only [Option.bind_some] at q
  have q := q.from b5
  have ht1 := ht1.mono (hR4.tups b5)
  have ht2 := ht2.mono (hR4.tups b5)
  refine ⟨_, rfl, _, rfl, mth hR5 rfl (fun _ _ => rfl) ⟨_, rfl, .inl ⟨_, _, rfl, rfl, R, i3, level + 1, rfl, hR5, g, ⟨by have := pre.1; omega, pre.2⟩, fun t3 j3 v3 H6 eo b6 hR6 ht3 => ?_, fun eo H6 => ?_⟩⟩⟩
  case refine_2 => rw [eo] at q; exact q.2 rfl H6
  rw [eo] at q
  have q := q.from b6
  have ht1 := ht1.mono (hR5.tups b6)
  have ht2 := ht2.mono (hR5.tups b6)
  refine ⟨by show 4 ≤ sizeLine; decide, fun p hp => ?_⟩
  have s7 := same_new hp (.tup [.str "if", v1, v2, v3])
  have t7 := BU.tups_of s7
  exact q.1 _ _ _ _ rfl (Same.but s7) (hR6.same s7) (.if_ upd_same (ht1.mono t7) (ht2.mono t7) (ht3.mono t7))
end
end RD
set_option maxHeartbeats 4000000
namespace RD
open PySem L2
seal PE PT PW PA PS PSs PTs PI PG PGs PO
abbrev s_read_operand : Stmt := inClass (top 39) 13
theorem sc_read_operand : FnScope ["self", "level", "word", "term"] ["self", "level"] (defScope s_read_operand) := ⟨rfl, rfl, rfl, by decide +kernel, rfl, by decide +kernel, by decide +kernel⟩
section
variable {P : Program} {w : World} {K : PySem.W.Frag} {mg : Str → Option Value} {base : Heap} {C cT : Addr} {mf : Str → Addr} {md : Str → FuncData} {n : Nat} {ow : Addr}
theorem ok_read_let (F : Fun K "read_let" "Reader.read_let" s_read_let (mf "read_let") (md "read_let")) (RC : RCls K C mf md)
    (G_expect : FnOk P w K mg base (CXr P w) 3 (mf "expect") (md "expect") ["self", "wanted"] (spExpect C cT)) (G_read_name : FnOk P w K mg base (CXr P w) 3 (mf "read_name") (md "read_name") ["self"] (spReadName C cT)) (G_read_term : FnOk P w K mg base (CXr P w) (7 * n + 7) (mf "read_term") (md "read_term") ["self", "level"] (spTerm C cT n)) :
    FnOk P w K mg base (CXr P w) (7 * n + 8) (mf "read_let") (md "read_let") ["self", "level"] (spTW C cT (letN n) n) := by
  refine F.okX sc_read_let (fun vs H Q E h => ?_) (fun cdv A outer s H vs Q E hr h => ?_)
  · obtain ⟨R, i, level, rfl, _⟩ := h
    rfl
  obtain ⟨R, i, level, rfl, hR, g, pre, q⟩ := h
  have nd := sc_read_let.nd
  refine ⟨_, (pss_cons (ps_expr (pe_meth (pv 0) RC.cl RC.m_expect G_expect (hr.mono (by omega)) RC.b_expect .nil pass_out (pa_cons pe_str pa_nil)))
      (pss_cons (ps_set (i := 2) nd rfl (Or.inl rfl) (pe_meth0 (pv 0) RC.cl RC.m_read_name G_read_name (hr.mono (by omega)) RC.b_read_name .nil pass_out ))
      (pss_cons (ps_expr (pe_meth (pv 0) RC.cl RC.m_expect G_expect (hr.mono (by omega)) RC.b_expect .nil pass_out (pa_cons pe_str pa_nil)))
      (pss_cons (ps_set (i := 3) nd rfl (Or.inl rfl) (pe_meth (pv 0) RC.cl RC.m_read_term G_read_term (hr.mono (by omega)) RC.b_read_term .nil pass_out (pa_cons (pe_op uAdd (pv 1) pe_int) pa_nil)))
      (pss_cons (ps_expr (pe_meth (pv 0) RC.cl RC.m_expect G_expect (hr.mono (by omega)) RC.b_expect .nil pass_out (pa_cons pe_str pa_nil)))
      (pss_one (ps_ret (pe_tup (pa_cons pe_str (pa_cons (pv 2) (pa_cons (pv 3) (pa_cons (pe_meth (pv 0) RC.cl RC.m_read_term G_read_term (hr.mono (by omega)) RC.b_read_term .nil pass_out (pa_cons (pe_op uAdd (pv 1) pe_int) pa_nil)) pa_nil)))))))))))), ?_⟩
  unfold letN rLet at q
  refine mth hR rfl (fun _ _ => rfl) ⟨R, i, _, wLet, rfl, by decide +kernel, by decide, by decide, hR, g, fun x i1 r H1 eo b1 hR1 hr1 => ?_, fun eo H1 => ?_⟩
  case refine_2 => rw [Option.map_eq_none_iff.mp eo] at q; exact q.2 rfl H1
  obtain ⟨j', he, ej⟩ := Option.map_eq_some_iff.mp eo
  cases ej
  have l1 := (expect_bal he (by simp) (by decide)).2.1
  rw [he] at q
  simp only [Option.bind_some] at q
  have q := q.from b1
  refine mth hR1 rfl (fun _ _ => rfl) ⟨R, i1, rfl, hR1, g, fun x k1 r H2 eo b2 hR2 hx => ?_, fun eo H2 => ?_⟩
  case refine_2 => rw [eo] at q; exact q.2 rfl H2
  subst hx
  have l2 : stAt R.ws k1 = _ := (rName_bal plainK eo).2.1
  rw [eo] at q
  simp only [Option.bind_some] at q
  have q := q.from b2
  refine mth hR2 rfl (fun _ _ => rfl) ⟨R, k1, _, wEq, rfl, by decide +kernel, by decide, by decide, hR2, g, fun _ i2 r H3 eo b3 hR3 hr3 => ?_, fun eo H3 => ?_⟩
  case refine_2 => rw [Option.map_eq_none_iff.mp eo] at q; exact q.2 rfl H3
  obtain ⟨j', he, ej⟩ := Option.map_eq_some_iff.mp eo
  cases ej
  have l3 := (expect_bal he (by simp) (by decide)).2.1
  rw [he] at q
  simp only [Option.bind_some] at q
  have q := q.from b3
  refine mth hR3 rfl (fun _ _ => rfl) ⟨_, rfl, .inl ⟨_, _, rfl, rfl, R, i2, level + 1, rfl, hR3, g, ⟨by have := pre.1; omega, pre.2⟩, fun t1 j2 v1 H4 eo b4 hR4 ht1 => ?_, fun eo H4 => ?_⟩⟩
  case refine_2 => rw [eo] at q; exact q.2 rfl H4
  have l4 : stAt R.ws j2 = _ := ((both_bal (ws := R.ws) plainK n).1 1 _ _ _ (Nat.le_refl 1) eo).2.1
  rw [eo] at q
  simp only [Option.bind_some] at q
  have q := q.from b4
  refine mth hR4 rfl (fun _ _ => rfl) ⟨R, j2, _, wIn, rfl, by decide +kernel, by decide, by decide, hR4, g, fun _ i3 r H5 eo b5 hR5 hr5 => ?_, fun eo H5 => ?_⟩
  case refine_2 => rw [Option.map_eq_none_iff.mp eo] at q; exact q.2 rfl H5
  obtain ⟨j', he, ej⟩ := Option.map_eq_some_iff.mp eo
  cases ej
  have l5 := (expect_bal he (by simp) (by decide)).2.1
  rw [he] at q
  simp only [Option.bind_some] at q
  have q := q.from b5
  have ht1 := ht1.mono (hR4.tups b5)
  refine ⟨_, rfl, _, rfl, mth hR5 rfl (fun _ _ => rfl) ⟨_, rfl, .inl ⟨_, _, rfl, rfl, R, i3, level + 1, rfl, hR5, g, ⟨by have := pre.1; omega, pre.2⟩, fun t3 j3 v3 H6 eo b6 hR6 ht3 => ?_, fun eo H6 => ?_⟩⟩⟩
  case refine_2 => rw [eo] at q; exact q.2 rfl H6
  rw [eo] at q
  have q := q.from b6
  have ht1 := ht1.mono (hR5.tups b6)
  refine ⟨by show 4 ≤ sizeLine; decide, fun p hp => ?_⟩
  have s7 := same_new hp (.tup [.str "let", .str (tx x), v1, v3])
  have t7 := BU.tups_of s7
  exact q.1 _ _ _ _ rfl (Same.but s7) (hR6.same s7) (.let_ upd_same (ht1.mono t7) (ht3.mono t7))
theorem ok_read_fn (F : Fun K "read_fn" "Reader.read_fn" s_read_fn (mf "read_fn") (md "read_fn")) (RC : RCls K C mf md)
    (G_expect : FnOk P w K mg base (CXr P w) 3 (mf "expect") (md "expect") ["self", "wanted"] (spExpect C cT)) (G_read_name : FnOk P w K mg base (CXr P w) 3 (mf "read_name") (md "read_name") ["self"] (spReadName C cT)) (G_read_term : FnOk P w K mg base (CXr P w) (7 * n + 7) (mf "read_term") (md "read_term") ["self", "level"] (spTerm C cT n)) :
    FnOk P w K mg base (CXr P w) (7 * n + 8) (mf "read_fn") (md "read_fn") ["self", "level"] (spTW C cT (fnN n) n) := by
  refine F.okX sc_read_fn (fun vs H Q E h => ?_) (fun cdv A outer s H vs Q E hr h => ?_)
  · obtain ⟨R, i, level, rfl, _⟩ := h
    rfl
  obtain ⟨R, i, level, rfl, hR, g, pre, q⟩ := h
  have nd := sc_read_fn.nd
  refine ⟨_, (pss_cons (ps_expr (pe_meth (pv 0) RC.cl RC.m_expect G_expect (hr.mono (by omega)) RC.b_expect .nil pass_out (pa_cons pe_str pa_nil)))
      (pss_cons (ps_set (i := 2) nd rfl (Or.inl rfl) (pe_meth0 (pv 0) RC.cl RC.m_read_name G_read_name (hr.mono (by omega)) RC.b_read_name .nil pass_out ))
      (pss_cons (ps_expr (pe_meth (pv 0) RC.cl RC.m_expect G_expect (hr.mono (by omega)) RC.b_expect .nil pass_out (pa_cons pe_str pa_nil)))
      (pss_one (ps_ret (pe_tup (pa_cons pe_str (pa_cons (pv 2) (pa_cons (pe_meth (pv 0) RC.cl RC.m_read_term G_read_term (hr.mono (by omega)) RC.b_read_term .nil pass_out (pa_cons (pe_op uAdd (pv 1) pe_int) pa_nil)) pa_nil))))))))), ?_⟩
  unfold fnN rFn at q
  refine mth hR rfl (fun _ _ => rfl) ⟨R, i, _, wFn, rfl, by decide +kernel, by decide, by decide, hR, g, fun x i1 r H1 eo b1 hR1 hr1 => ?_, fun eo H1 => ?_⟩
  case refine_2 => rw [Option.map_eq_none_iff.mp eo] at q; exact q.2 rfl H1
  obtain ⟨j', he, ej⟩ := Option.map_eq_some_iff.mp eo
  cases ej
  have l1 := (expect_bal he (by simp) (by decide)).2.1
  rw [he] at q
  simp only [Option.bind_some] at q
  have q := q.from b1
  refine mth hR1 rfl (fun _ _ => rfl) ⟨R, i1, rfl, hR1, g, fun x k1 r H2 eo b2 hR2 hx => ?_, fun eo H2 => ?_⟩
  case refine_2 => rw [eo] at q; exact q.2 rfl H2
  subst hx
  have l2 : stAt R.ws k1 = _ := (rName_bal plainK eo).2.1
  rw [eo] at q
  simp only [Option.bind_some] at q
  have q := q.from b2
  refine mth hR2 rfl (fun _ _ => rfl) ⟨R, k1, _, wArrow, rfl, by decide +kernel, by decide, by decide, hR2, g, fun _ i2 r H3 eo b3 hR3 hr3 => ?_, fun eo H3 => ?_⟩
  case refine_2 => rw [Option.map_eq_none_iff.mp eo] at q; exact q.2 rfl H3
  obtain ⟨j', he, ej⟩ := Option.map_eq_some_iff.mp eo
  cases ej
  have l3 := (expect_bal he (by simp) (by decide)).2.1
  rw [he] at q
  simp only [Option.bind_some] at q
  have q := q.from b3
  refine ⟨_, rfl, mth hR3 rfl (fun _ _ => rfl) ⟨_, rfl, .inl ⟨_, _, rfl, rfl, R, i2, level + 1, rfl, hR3, g, ⟨by have := pre.1; omega, pre.2⟩, fun t3 j3 v3 H6 eo b6 hR6 ht3 => ?_, fun eo H6 => ?_⟩⟩⟩
  case refine_2 => rw [eo] at q; exact q.2 rfl H6
  rw [eo] at q
  have q := q.from b6
  refine ⟨by show 3 ≤ sizeLine; decide, fun p hp => ?_⟩
  have s7 := same_new hp (.tup [.str "fn", .str (tx x), v3])
  exact q.1 _ _ _ _ rfl (Same.but s7) (hR6.same s7) (.fn upd_same (ht3.mono (BU.tups_of s7)))
theorem ok_read_tight_or_wide (F : Fun K "read_tight_or_wide" "Reader.read_tight_or_wide" s_read_tight_or_wide (mf "read_tight_or_wide") (md "read_tight_or_wide")) (RC : RCls K C mf md)
    (G_ahead : FnOk P w K mg base CX0 1 (mf "ahead") (md "ahead") ["self"] (spAhead C)) (G_read_if : FnOk P w K mg base (CXr P w) (7 * n + 8) (mf "read_if") (md "read_if") ["self", "level"] (spTW C cT (ifN n) n))
    (G_read_let : FnOk P w K mg base (CXr P w) (7 * n + 8) (mf "read_let") (md "read_let") ["self", "level"] (spTW C cT (letN n) n)) (G_read_fn : FnOk P w K mg base (CXr P w) (7 * n + 8) (mf "read_fn") (md "read_fn") ["self", "level"] (spTW C cT (fnN n) n))
    (G_read_tight : FnOk P w K mg base (CXr P w) (7 * n + 10) (mf "read_tight") (md "read_tight") ["self", "level"] (spTight C cT n)) :
    FnOk P w K mg base (CXr P w) (7 * n + 11) (mf "read_tight_or_wide") (md "read_tight_or_wide") ["self", "level"] (spTW C cT (twN n) n) := by
  refine F.okX sc_read_tight_or_wide (fun vs H Q E h => ?_) (fun cdv A outer s H vs Q E hr h => ?_)
  · obtain ⟨R, i, level, rfl, _⟩ := h
    rfl
  obtain ⟨R, i, level, rfl, hR, g, pre, q⟩ := h
  have nd := sc_read_tight_or_wide.nd
  have hu := hr.units0
  refine ⟨_, (pss_cons (ps_set (i := 2) nd rfl (Or.inl rfl) (pe_meth0 (pv 0) RC.cl RC.m_ahead G_ahead (hr.mono (by omega)) RC.b_ahead .nil pass0 ))
      (pss_cons (ps_if (pt_cmpR (kEq (K := K) hu) (pv 2) pe_str rfl) (pss_one (ps_ret (pe_meth (pv 0) RC.cl RC.m_read_if G_read_if (hr.mono (by omega)) RC.b_read_if .nil pass_out (pa_cons (pv 1) pa_nil)))) pss_nil)
      (pss_cons (ps_if (pt_cmpR (kEq (K := K) hu) (pv 2) pe_str rfl) (pss_one (ps_ret (pe_meth (pv 0) RC.cl RC.m_read_let G_read_let (hr.mono (by omega)) RC.b_read_let .nil pass_out (pa_cons (pv 1) pa_nil)))) pss_nil)
      (pss_cons (ps_if (pt_cmpR (kEq (K := K) hu) (pv 2) pe_str rfl) (pss_one (ps_ret (pe_meth (pv 0) RC.cl RC.m_read_fn G_read_fn (hr.mono (by omega)) RC.b_read_fn .nil pass_out (pa_cons (pv 1) pa_nil)))) pss_nil)
      (pss_one (ps_ret (pe_meth (pv 0) RC.cl RC.m_read_tight G_read_tight (hr.mono (by omega)) RC.b_read_tight .nil pass_out (pa_cons (pv 1) pa_nil)))))))), ?_⟩
  unfold twN rTW at q
  refine mth hR rfl (fun _ _ => rfl) ⟨R, i, rfl, hR, g.len, ?_⟩
  refine ⟨_, rfl, .inl ⟨rfl, _, rfl, ?_⟩⟩
  rw [K10.eq_lit (l := wIf) (by decide +kernel)]
  by_cases e : ahead R.ws i = wIf
  · rw [if_pos e] at q
    rw [decide_eq_true e]
    exact ifT rfl (mth hR rfl (fun _ _ => rfl) ⟨_, rfl, R, i, level, rfl, hR, g, pre, q⟩)
  rw [if_neg e] at q
  rw [decide_eq_false e]
  refine ifF (by decide) ⟨_, rfl, .inl ⟨rfl, _, rfl, ?_⟩⟩
  rw [K10.eq_lit (l := wLet) (by decide +kernel)]
  by_cases e : ahead R.ws i = wLet
  · rw [if_pos e] at q
    rw [decide_eq_true e]
    exact ifT rfl (mth hR rfl (fun _ _ => rfl) ⟨_, rfl, R, i, level, rfl, hR, g, pre, q⟩)
  rw [if_neg e] at q
  rw [decide_eq_false e]
  refine ifF (by decide) ⟨_, rfl, .inl ⟨rfl, _, rfl, ?_⟩⟩
  rw [K10.eq_lit (l := wFn) (by decide +kernel)]
  by_cases e : ahead R.ws i = wFn
  · rw [if_pos e] at q
    rw [decide_eq_true e]
    exact ifT rfl (mth hR rfl (fun _ _ => rfl) ⟨_, rfl, R, i, level, rfl, hR, g, pre, q⟩)
  rw [if_neg e] at q
  rw [decide_eq_false e]
  exact ifF (by decide) (mth hR rfl (fun _ _ => rfl) ⟨_, rfl, R, i, level, rfl, hR, g, pre, q⟩)
def oneVs : List V := [.str "head", .str "tail", .str "empty", .str "not"]
theorem in_one4 (x : Wd) : inV (.str (tx x)) oneVs = oneWord x := by
  have h1 : ("head" : Str) = tx wHead := by decide +kernel
  have h2 : ("tail" : Str) = tx wTail := by decide +kernel
  have h3 : ("empty" : Str) = tx wEmpty := by decide +kernel
  have h4 : ("not" : Str) = tx wNot := by decide +kernel
  unfold inV oneVs oneWord
  rw [h1, h2, h3, h4, Bool.eq_iff_iff, List.any_eq_true]
  simp only [List.mem_cons, List.not_mem_nil, or_false, Bool.or_eq_true, decide_eq_true_eq]
  constructor
  · rintro ⟨y, rfl | rfl | rfl | rfl, e⟩
    · exact .inl (.inl (.inl (tx_inj (by simpa [eqV] using e)).symm))
    · exact .inl (.inl (.inr (tx_inj (by simpa [eqV] using e)).symm))
    · exact .inl (.inr (tx_inj (by simpa [eqV] using e)).symm)
    · exact .inr (tx_inj (by simpa [eqV] using e)).symm
  · rintro (((rfl | rfl) | rfl) | rfl)
    · exact ⟨_, .inl rfl, by simp [eqV]⟩
    · exact ⟨_, .inr (.inl rfl), by simp [eqV]⟩
    · exact ⟨_, .inr (.inr (.inl rfl)), by simp [eqV]⟩
    · exact ⟨_, .inr (.inr (.inr rfl)), by simp [eqV]⟩
def spOp (C cT : Addr) (n : Nat) : Sp := fun vs H Q E => ∃ R i level, vs = [.ref R.a, .int (level : Nat)] ∧ RAt C H R i ∧ Good R.ws ∧ Pre 0 n level R.ws i ∧ Ret C cT R H (opdN R.ws n level i) TmAt Q E
def spVoid : Sp := fun _ _ _ _ => False
theorem ok_void {CX : CXT} {k : Nat} {f : Addr} {fd : FuncData} {ps : List Str} : FnOk P w K mg base CX k f fd ps spVoid := ⟨fun _ _ _ _ h => h.elim, fun _ _ _ _ _ _ _ _ _ _ _ _ _ h => h.elim⟩
theorem ok_read_operand0 (F : Fun K "read_operand" "Reader.read_operand" s_read_operand (mf "read_operand") (md "read_operand")) (RC : RCls K C mf md) (X_BadText : XCls K mg "BadText" cT) {t1 : Tok} (m_DEEPEST : mg "DEEPEST" = some (.int 16 t1)) (m_ONE_WORDS : mg "ONE_WORDS" = some (.ref ow)) :
    FnOk P w K mg base (CXr P w) 5 (mf "read_operand") (md "read_operand") ["self", "level"] (spOp C cT 0) := by
  have G_ahead : FnOk P w K mg base CX0 1 (mf "ahead") (md "ahead") ["self"] spVoid := ok_void
  have G_take : FnOk P w K mg base CX0 1 (mf "take") (md "take") ["self"] spVoid := ok_void
  have G_read_operand : FnOk P w K mg base (CXr P w) 1 (mf "read_operand") (md "read_operand") ["self", "level"] spVoid := ok_void
  have G_read_tight_or_wide : FnOk P w K mg base (CXr P w) 1 (mf "read_tight_or_wide") (md "read_tight_or_wide") ["self", "level"] spVoid := ok_void
  refine F.okX sc_read_operand (fun vs H Q E h => ?_) (fun cdv A outer s H vs Q E hr h => ?_)
  · obtain ⟨R, i, level, rfl, _⟩ := h
    rfl
  obtain ⟨R, i, level, rfl, hR, g, pre, q⟩ := h
  have nd := sc_read_operand.nd
  have hu := hr.units0
  refine ⟨_, (pss_cons (ps_if (pt_cmpR op_gt (pv 1) (pe_glob (v := .int 16) rfl m_DEEPEST ⟨_, rfl⟩) rfl) (pss_one (ps_raise PySem.F.excBase_ValueError (by decide) X_BadText.q rfl X_BadText.m (pa_cons (pe_fstr (pj_cons (pp_str (by decide)) (pj_cons (pp_int (pe_glob (v := .int 16) rfl m_DEEPEST ⟨_, rfl⟩)) (pj_cons (pp_str (by decide)) pj_nil)))) pa_nil))) pss_nil)
      (pss_cons (ps_if (pt_cmpR (kIn (K := K) (w := w)) (pe_meth0 (pv 0) RC.cl RC.m_ahead G_ahead (hr.mono (by omega)) RC.b_ahead .nil pass0 ) (pe_glob (v := .ref _) rfl m_ONE_WORDS rfl) rfl) (pss_cons (ps_set (i := 2) nd rfl (Or.inl rfl) (pe_meth0 (pv 0) RC.cl RC.m_take G_take (hr.mono (by omega)) RC.b_take .nil pass0 ))
      (pss_one (ps_ret (pe_tup (pa_cons pe_str (pa_cons (pv 2) (pa_cons (pe_meth (pv 0) RC.cl RC.m_read_operand G_read_operand (hr.mono (by omega)) RC.b_read_operand .nil pass_out (pa_cons (pe_op uAdd (pv 1) pe_int) pa_nil)) pa_nil))))))) pss_nil)
      (pss_cons (ps_set (i := 3) nd rfl (Or.inl rfl) (pe_meth (pv 0) RC.cl RC.m_read_tight_or_wide G_read_tight_or_wide (hr.mono (by omega)) RC.b_read_tight_or_wide .nil pass_out (pa_cons (pv 1) pa_nil)))
      (pss_cons (ps_while PassesOwn.leaving (pt_cmpR (kEq (K := K) hu) (pe_meth0 (pv 0) RC.cl RC.m_ahead G_ahead (hr.mono (by omega)) RC.b_ahead .nil pass0 ) pe_str rfl) (pss_cons (ps_expr (pe_meth0 (pv 0) RC.cl RC.m_take G_take (hr.mono (by omega)) RC.b_take .nil pass0 ))
      (pss_one (ps_set (i := 3) nd rfl (Or.inl rfl) (pe_tup (pa_cons pe_str (pa_cons (pv 3) (pa_cons (pe_meth (pv 0) RC.cl RC.m_read_tight_or_wide G_read_tight_or_wide (hr.mono (by omega)) RC.b_read_tight_or_wide .nil pass_out (pa_cons (pe_op uAdd (pv 1) pe_int) pa_nil)) pa_nil))))))))
      (pss_one (ps_ret (pv 3))))))), ?_⟩
  have h16 : 16 < level := by have := pre.1; have := pre.2 i; omega
  exact ⟨_, rfl, _, _, rfl, rfl, _, rfl, ifT (decide_eq_true (by omega)) ⟨_, rfl, by decide, by decide +kernel, fun z hz => ⟨by show 1 ≤ sizeLine; decide, q.2 rfl H⟩⟩⟩
end
end RD
set_option maxHeartbeats 4000000
namespace RD
open PySem L2
seal PE PT PW PA PS PSs PTs PI PG PGs PO
abbrev s_read_row : Stmt := inClass (top 39) 11
theorem sc_read_row : FnScope ["self", "least", "level", "term", "sign", "right"] ["self", "least", "level"] (defScope s_read_row) := ⟨rfl, rfl, rfl, by decide +kernel, rfl, by decide +kernel, by decide +kernel⟩
def SD : List (Str × V) := [("<", .int 1), ("=", .int 1), (":", .int 2), ("+", .int 3), ("-", .int 3), ("*", .int 4), ("/", .int 4)]
theorem lk_str (x l : Wd) (z : Str) (h : z = tx l) (v : V) (r : List (Str × V)) : List.lookup (tx x) ((z, v) :: r) = if x = l then some v else List.lookup (tx x) r := by
  subst h
  rw [List.lookup_cons]
  by_cases e : x = l
  · subst e; rw [beq_self_eq_true, if_pos rfl]
  · rw [beq_eq_false_iff_ne.mpr (fun h => e (tx_inj h)), if_neg e]
theorem sd_look (x : Wd) : SD.lookup (tx x) = if strength x = 0 then none else some (.int (strength x : Nat)) := by
  unfold SD
  rw [lk_str x wLt _ (by decide +kernel), lk_str x wEq _ (by decide +kernel), lk_str x wColon _ (by decide +kernel), lk_str x wPlus _ (by decide +kernel), lk_str x wMinus _ (by decide +kernel), lk_str x wTimes _ (by decide +kernel), lk_str x wOver _ (by decide +kernel)]
  unfold strength
  repeat' split
  all_goals first | rfl | (rename_i h; exact absurd h (by decide)) | contradiction
theorem sd_get (x : Wd) : (SD.lookup (tx x)).getD (.int 0) = V.int (strength x : Nat) := by
  rw [sd_look]
  split
  · rename_i h; rw [h]; rfl
  · rfl
def cmpVs : List V := [.str "<", .str "="]
theorem in_cmp (x : Wd) : inV (.str (tx x)) cmpVs = comparing x := by
  have h1 : ("<" : Str) = tx wLt := by decide +kernel
  have h2 : ("=" : Str) = tx wEq := by decide +kernel
  unfold inV cmpVs comparing
  rw [h1, h2, Bool.eq_iff_iff, List.any_eq_true]
  simp only [List.mem_cons, List.not_mem_nil, or_false, Bool.or_eq_true, decide_eq_true_eq]
  constructor
  · rintro ⟨y, rfl | rfl, e⟩
    · exact .inl (tx_inj (by simpa [eqV] using e)).symm
    · exact .inr (tx_inj (by simpa [eqV] using e)).symm
  · rintro (rfl | rfl)
    · exact ⟨_, .inl rfl, by simp [eqV]⟩
    · exact ⟨_, .inr rfl, by simp [eqV]⟩
section
variable {P : Program} {w : World} {K : PySem.W.Frag} {mg : Str → Option Value} {base : Heap} {C cT : Addr} {mf : Str → Addr} {md : Str → FuncData} {n : Nat} {ow sd cm f f_strength_behind : Addr} {fd d_strength_behind : FuncData}
theorem ok_read_operand (F : Fun K "read_operand" "Reader.read_operand" s_read_operand (mf "read_operand") (md "read_operand")) (RC : RCls K C mf md) (X_BadText : XCls K mg "BadText" cT) {t1 : Tok} (m_DEEPEST : mg "DEEPEST" = some (.int 16 t1)) (m_ONE_WORDS : mg "ONE_WORDS" = some (.ref ow)) (OW : ∀ H : Hp, SqT K H ow oneVs)
    (G_ahead : FnOk P w K mg base CX0 1 (mf "ahead") (md "ahead") ["self"] (spAhead C)) (G_take : FnOk P w K mg base CX0 2 (mf "take") (md "take") ["self"] (spTake C))
    (G_read_operand : FnOk P w K mg base (CXr P w) (7 * n + 5) (mf "read_operand") (md "read_operand") ["self", "level"] (spOp C cT n)) (G_read_tight_or_wide : FnOk P w K mg base (CXr P w) (7 * n + 11) (mf "read_tight_or_wide") (md "read_tight_or_wide") ["self", "level"] (spTW C cT (twN n) n)) :
    FnOk P w K mg base (CXr P w) (7 * n + 12) (mf "read_operand") (md "read_operand") ["self", "level"] (spOp C cT (n + 1)) := by
  refine F.okX sc_read_operand (fun vs H Q E h => ?_) (fun cdv A outer s H vs Q E hr h => ?_)
  · obtain ⟨R, i, level, rfl, _⟩ := h
    rfl
  obtain ⟨R, i, level, rfl, hR, g, pre, q⟩ := h
  have nd := sc_read_operand.nd
  have hu := hr.units0
  refine ⟨_, (pss_cons (ps_if (pt_cmpR op_gt (pv 1) (pe_glob (v := .int 16) rfl m_DEEPEST ⟨_, rfl⟩) rfl) (pss_one (ps_raise PySem.F.excBase_ValueError (by decide) X_BadText.q rfl X_BadText.m (pa_cons (pe_fstr (pj_cons (pp_str (by decide)) (pj_cons (pp_int (pe_glob (v := .int 16) rfl m_DEEPEST ⟨_, rfl⟩)) (pj_cons (pp_str (by decide)) pj_nil)))) pa_nil))) pss_nil)
      (pss_cons (ps_if (pt_cmpR (kIn (K := K) (w := w)) (pe_meth0 (pv 0) RC.cl RC.m_ahead G_ahead (hr.mono (by omega)) RC.b_ahead .nil pass0 ) (pe_glob (v := .ref _) rfl m_ONE_WORDS rfl) rfl) (pss_cons (ps_set (i := 2) nd rfl (Or.inl rfl) (pe_meth0 (pv 0) RC.cl RC.m_take G_take (hr.mono (by omega)) RC.b_take .nil pass0 ))
      (pss_one (ps_ret (pe_tup (pa_cons pe_str (pa_cons (pv 2) (pa_cons (pe_meth (pv 0) RC.cl RC.m_read_operand G_read_operand (hr.mono (by omega)) RC.b_read_operand .nil pass_out (pa_cons (pe_op uAdd (pv 1) pe_int) pa_nil)) pa_nil))))))) pss_nil)
      (pss_cons (ps_set (i := 3) nd rfl (Or.inl rfl) (pe_meth (pv 0) RC.cl RC.m_read_tight_or_wide G_read_tight_or_wide (hr.mono (by omega)) RC.b_read_tight_or_wide .nil pass_out (pa_cons (pv 1) pa_nil)))
      (pss_cons (ps_while PassesOwn.leaving (pt_cmpR (kEq (K := K) hu) (pe_meth0 (pv 0) RC.cl RC.m_ahead G_ahead (hr.mono (by omega)) RC.b_ahead .nil pass0 ) pe_str rfl) (pss_cons (ps_expr (pe_meth0 (pv 0) RC.cl RC.m_take G_take (hr.mono (by omega)) RC.b_take .nil pass0 ))
      (pss_one (ps_set (i := 3) nd rfl (Or.inl rfl) (pe_tup (pa_cons pe_str (pa_cons (pv 3) (pa_cons (pe_meth (pv 0) RC.cl RC.m_read_tight_or_wide G_read_tight_or_wide (hr.mono (by omega)) RC.b_read_tight_or_wide .nil pass_out (pa_cons (pe_op uAdd (pv 1) pe_int) pa_nil)) pa_nil))))))))
      (pss_one (ps_ret (pv 3))))))), ?_⟩
  have q : Ret C cT R H (rOperand K10.isNum K10.isName R.ws (rowN R.ws n) (opdN R.ws n) level i) TmAt Q E := q
  unfold rOperand at q
  refine ⟨_, rfl, _, _, rfl, rfl, _, rfl, ?_⟩
  by_cases h16 : 16 < level
  · rw [if_pos h16] at q
    exact ifT (decide_eq_true (by omega)) ⟨_, rfl, by decide, by decide +kernel, fun z hz => ⟨by show 1 ≤ sizeLine; decide, q.2 rfl H⟩⟩
  rw [if_neg h16] at q
  refine ifF (fun h => h16 (by have := of_decide_eq_true h; omega)) ?_
  refine mth hR rfl (fun _ _ => rfl) ⟨R, i, rfl, hR, g.len, .inr (.inl ⟨ow, _, rfl, .inr (OW H), rfl, rfl, _, rfl, ?_⟩)⟩
  show if inV (.str (tx (ahead R.ws i))) oneVs = true then _ else _
  rw [in_one4]
  by_cases e : oneWord (ahead R.ws i) = true
  · rw [if_pos e] at q
    obtain ⟨p1, p2⟩ := oneWord_plain e
    have hs1 := st_next p1
    refine ifT e (mth hR rfl (fun _ _ => rfl) ⟨R, i, rfl, hR, g.len, fun H1 b1 hR1 => ?_⟩)
    have q := q.from b1
    refine ⟨_, rfl, mth hR1 rfl (fun _ _ => rfl) ⟨_, rfl, .inl ⟨_, _, rfl, rfl, R, i + 1, level + 1, rfl, hR1, g, ⟨by have := pre.1; omega, pre.2⟩, fun t j r H2 eo b2 hR2 ht => ?_, fun eo H2 => ?_⟩⟩⟩
    · rw [eo] at q
      have q := q.from b2
      refine ⟨by show 3 ≤ sizeLine; decide, fun p hp => ?_⟩
      have s3 := same_new hp (.tup [.str "one", .str (tx (ahead R.ws i)), r])
      exact q.1 _ _ _ _ rfl (Same.but s3) (hR2.same s3) (.one upd_same (ht.mono (BU.tups_of s3)))
    · rw [eo] at q
      exact q.2 rfl H2
  rw [if_neg e] at q
  refine ifF e (mth hR rfl (fun _ _ => rfl) ⟨_, rfl, R, i, level, rfl, hR, g, ⟨by have := pre.1; omega, pre.2⟩, fun t j r H1 eo b1 hR1 ht => ?_, fun eo H1 => ?_⟩)
  case refine_2 =>
    have eo' : rTW K10.isNum K10.isName R.ws (rowN R.ws n) level i = none := eo
    rw [eo'] at q
    exact q.2 rfl H1
  have eo : rTW K10.isNum K10.isName R.ws (rowN R.ws n) level i = some (t, j) := eo
  have hb := rTW_bal plainK (both_bal (ws := R.ws) plainK n).1 eo
  have hst : stAt R.ws j = stAt R.ws i := hb.2.1
  have hjl : j ≤ R.ws.length := hb.2.2
  rw [eo] at q
  simp only [Option.bind_some] at q
  have q := q.from b1
  obtain ⟨oo, hoo⟩ : ∃ oo, doLoop K10.isNum K10.isName R.ws (rowN R.ws n) level (R.ws.length + 1) t j = oo := ⟨_, rfl⟩
  rw [hoo] at q
  refine ⟨fun m σ H' => ∃ (k m' : Nat) (u : Tm) (v : V) (y : Option V), σ = [some (.ref R.a), some (.int (level : Nat)), y, some v] ∧ But R.a H1 H' ∧ RAt C H' R k ∧ TmAt H' u v ∧ stAt R.ws k = stAt R.ws i ∧ k ≤ R.ws.length ∧ doLoop K10.isNum K10.isName R.ws (rowN R.ws n) level m' u k = oo ∧ R.ws.length < m' + k ∧ m = R.ws.length - k,
    ⟨_, j, R.ws.length + 1, t, r, none, rfl, But.refl, hR1, ht, hst, hjl, hoo, by omega, rfl⟩, ?_⟩
  rintro m σ H2 ⟨k, m', u, v, y, rfl, b2, hR2, hu2, hst2, hkl, ho, hmk, rfl⟩
  refine mth hR2 rfl (fun _ _ => rfl) ⟨R, k, rfl, hR2, g.len, .inl ⟨rfl, _, rfl, ?_⟩⟩
  rw [K10.eq_lit (l := wBang) (by decide +kernel)]
  by_cases eb : ahead R.ws k = wBang
  · have hn : ahead R.ws k ≠ [] := by rw [eb]; simp
    have hkl2 := ahead_lt hn
    have hs3 := st_next hn
    rw [eb] at hs3
    have hd0 : delta wBang = 0 := by decide
    obtain ⟨m', rfl⟩ : ∃ x, m' = x + 1 := ⟨m' - 1, by omega⟩
    unfold doLoop at ho
    rw [if_pos eb] at ho
    rw [decide_eq_true eb]
    refine ifT rfl ⟨_, fun _ _ h => h, ?_⟩
    refine mth hR2 rfl (fun _ _ => rfl) ⟨R, k, rfl, hR2, g.len, fun H3 b3 hR3 => ?_⟩
    have hu3 := hu2.mono (hR2.tups b3)
    refine ⟨_, rfl, mth hR3 rfl (fun _ _ => rfl) ⟨_, rfl, .inl ⟨_, _, rfl, rfl, R, k + 1, level + 1, rfl, hR3, g, ⟨by have := pre.1; omega, pre.2⟩, fun t4 j4 v4 H4 eo4 b4 hR4 ht4 => ?_, fun eo4 H4 => ?_⟩⟩⟩
    · have hb4 := rTW_bal plainK (both_bal (ws := R.ws) plainK n).1 eo4
      have l4 : stAt R.ws j4 = stAt R.ws (k + 1) := hb4.2.1
      have l5 : k + 1 < j4 := hb4.1
      have l6 : j4 ≤ R.ws.length := hb4.2.2
      have eo4' : rTW K10.isNum K10.isName R.ws (rowN R.ws n) (level + 1) (k + 1) = some (t4, j4) := eo4
      rw [eo4'] at ho
      simp only [Option.bind_some] at ho
      refine ⟨by show 3 ≤ sizeLine; decide, fun p hp => ?_⟩
      have s5 := same_new hp (.tup [.str "do", v, v4])
      have t5 := BU.tups_of s5
      exact ⟨R.ws.length - j4, by omega, j4, m', _, _, _, rfl, ((b2.trans b3).trans b4).trans (Same.but s5), hR4.same s5, .do_ upd_same ((hu3.mono (hR3.tups b4)).mono t5) (ht4.mono t5), by omega, l6, ho, by omega, rfl⟩
    · have eo4' : rTW K10.isNum K10.isName R.ws (rowN R.ws n) (level + 1) (k + 1) = none := eo4
      rw [eo4'] at ho
      exact q.2 ho.symm H4
  · rw [decide_eq_false eb]
    have ho' : oo = some (u, k) := by
      cases m' with
      | zero => exact ho.symm
      | succ m' => unfold doLoop at ho; rw [if_neg eb] at ho; exact ho.symm
    exact ifF (by decide) ⟨_, rfl, q.1 u k v H2 ho' b2 hR2 hu2⟩
def spBehind : Sp := fun vs H Q _ => ∃ x, vs = [.str (tx x)] ∧ 1 ≤ strength x ∧ Q (.int (behind x : Nat)) H
theorem ok_strength_behind (F : Fun K "strength_behind" "strength_behind" s_strength_behind f fd) (m_STRENGTHS : mg "STRENGTHS" = some (.ref sd)) (TD : TopD w K sd SD) : FnOk P w K mg base CX0 1 f fd ["sign"] spBehind := by
  refine F.ok sc_strength_behind (fun vs H Q E h => ?_) (fun cdv A outer s H vs Q E hr h => ?_)
  · obtain ⟨x, rfl, _⟩ := h
    rfl
  obtain ⟨x, rfl, hx, q⟩ := h
  have nd := sc_strength_behind.nd
  have hu := hr.units0
  have hl : SD.lookup (tx x) = some (.int (strength x : Nat)) := by rw [sd_look, if_neg (by omega)]
  refine ⟨_, (pss_cons (ps_if (pt_cmpR (kEq (K := K) hu) (pv 0) pe_str rfl) (pss_one (ps_ret (pe_ix (kIx (K := K) (w := w)) (pe_glob (v := .ref _) rfl m_STRENGTHS rfl) (pv 0) (fun _ _ => rfl)))) pss_nil)
      (pss_one (ps_ret (pe_op uAdd (pe_ix (kIx (K := K) (w := w)) (pe_glob (v := .ref _) rfl m_STRENGTHS rfl) (pv 0) (fun _ _ => rfl)) pe_int)))), ?_⟩
  refine ⟨_, rfl, .inl ⟨rfl, _, rfl, ?_⟩⟩
  rw [K10.eq_lit (l := wColon) (by decide +kernel)]
  unfold behind at q
  by_cases e : x = wColon
  · rw [if_pos e] at q
    rw [decide_eq_true e]
    exact ifT rfl ⟨_, rfl, .inr (.inr (.inr ⟨sd, _, SD, _, rfl, rfl, TD, hl, q⟩))⟩
  · rw [if_neg e] at q
    rw [decide_eq_false e]
    exact ifF (by decide) ⟨_, rfl, .inr (.inr (.inr ⟨sd, _, SD, _, rfl, rfl, TD, hl, .inl ⟨_, _, rfl, rfl, q⟩⟩))⟩
def spSide (C cT : Addr) : Sp := fun vs H Q E => ∃ R i x, vs = [.ref R.a, .str (tx x)] ∧ RAt C H R i ∧ Good R.ws ∧ ((comparing x && comparing (ahead R.ws i)) = false → Q .non H) ∧ ((comparing x && comparing (ahead R.ws i)) = true → E (.ref cT) none H)
theorem ok_refuse_side_by_side (F : Fun K "refuse_side_by_side" "Reader.refuse_side_by_side" s_refuse_side_by_side (mf "refuse_side_by_side") (md "refuse_side_by_side")) (RC : RCls K C mf md) (X_BadText : XCls K mg "BadText" cT) (m_COMPARING : mg "COMPARING" = some (.ref cm)) (CM : ∀ H : Hp, SqT K H cm cmpVs)
    (G_ahead : FnOk P w K mg base CX0 1 (mf "ahead") (md "ahead") ["self"] (spAhead C)) :
    FnOk P w K mg base (CXr P w) 2 (mf "refuse_side_by_side") (md "refuse_side_by_side") ["self", "sign"] (spSide C cT) := by
  refine F.okX sc_refuse_side_by_side (fun vs H Q E h => ?_) (fun cdv A outer s H vs Q E hr h => ?_)
  · obtain ⟨R, i, x, rfl, _⟩ := h
    rfl
  obtain ⟨R, i, x, rfl, hR, g, q1, q2⟩ := h
  have nd := sc_refuse_side_by_side.nd
  have hu := hr.units0
  refine ⟨_, (pss_one (ps_cut (ps_if (PW.pt (pw_and (pt_cmpR (kIn (K := K) (w := w)) (pv 1) (pe_glob (v := .ref _) rfl m_COMPARING rfl) rfl) (pw_and1 (pt_cmpR (kIn (K := K) (w := w)) (pe_meth0 (pv 0) RC.cl RC.m_ahead G_ahead (hr.mono (by omega)) RC.b_ahead .nil pass0 ) (pe_glob (v := .ref _) rfl m_COMPARING rfl) rfl)))) (pss_one (ps_raise PySem.F.excBase_ValueError (by decide) X_BadText.q rfl X_BadText.m (pa_cons pe_str pa_nil))) pss_nil))), ?_⟩
  refine ⟨fun σ' H' => Q .non H', ?_, fun σ' H' h => h⟩
  refine ⟨_, rfl, .inr (.inl ⟨cm, _, rfl, .inr (CM H), rfl, rfl, _, rfl, ?_⟩)⟩
  show if inV (.str (tx x)) cmpVs = true then _ else _
  rw [in_cmp]
  cases hx : comparing x with
  | false =>
    rw [hx] at q1
    exact ifF (by decide) (ifF (by decide) (q1 rfl))
  | true =>
    refine ifT rfl (mth hR rfl (fun _ _ => rfl) ⟨R, i, rfl, hR, g.len, .inr (.inl ⟨cm, _, rfl, .inr (CM H), rfl, rfl, _, rfl, ?_⟩)⟩)
    show if inV (.str (tx (ahead R.ws i))) cmpVs = true then _ else _
    rw [in_cmp]
    rw [hx] at q1 q2
    cases hy : comparing (ahead R.ws i) with
    | false => rw [hy] at q1; exact ifF (by decide) (q1 rfl)
    | true => rw [hy] at q2; exact ifT rfl ⟨by show 1 ≤ sizeLine; decide, q2 rfl⟩
end
end RD
set_option maxHeartbeats 4000000
namespace RD
open PySem L2
seal PE PT PW PA PS PSs PTs PI PG PGs PO
section
variable {P : Program} {w : World} {K : PySem.W.Frag} {mg : Str → Option Value} {base : Heap} {C cT : Addr} {mf : Str → Addr} {md : Str → FuncData} {n : Nat} {ow sd cm f_strength_behind f_is_name f_is_number : Addr} {d_strength_behind d_is_name d_is_number : FuncData}
theorem ok_read_row0 (F : Fun K "read_row" "Reader.read_row" s_read_row (mf "read_row") (md "read_row")) (RC : RCls K C mf md) (m_STRENGTHS : mg "STRENGTHS" = some (.ref sd))
    (b_strength_behind : Binds K d_strength_behind ["sign"] []) (k_strength_behind : PySem.W.keepIn K (.ref f_strength_behind) = true) (m_strength_behind : mg "strength_behind" = some (.ref f_strength_behind))
    (G_read_operand : FnOk P w K mg base (CXr P w) 5 (mf "read_operand") (md "read_operand") ["self", "level"] (spOp C cT 0)) : FnOk P w K mg base (CXr P w) 6 (mf "read_row") (md "read_row") ["self", "least", "level"] (spRow C cT 0) := by
  have G_ahead : FnOk P w K mg base CX0 1 (mf "ahead") (md "ahead") ["self"] spVoid := ok_void
  have G_take : FnOk P w K mg base CX0 1 (mf "take") (md "take") ["self"] spVoid := ok_void
  have G_read_row : FnOk P w K mg base (CXr P w) 1 (mf "read_row") (md "read_row") ["self", "least", "level"] spVoid := ok_void
  have G_refuse_side_by_side : FnOk P w K mg base (CXr P w) 1 (mf "refuse_side_by_side") (md "refuse_side_by_side") ["self", "sign"] spVoid := ok_void
  have G_strength_behind : FnOk P w K mg base CX0 1 f_strength_behind d_strength_behind ["sign"] spVoid := ok_void
  refine F.okX sc_read_row (fun vs H Q E h => ?_) (fun cdv A outer s H vs Q E hr h => ?_)
  · obtain ⟨R, i, least, level, rfl, _⟩ := h
    rfl
  obtain ⟨R, i, least, level, rfl, hR, g, hle, pre, q⟩ := h
  have nd := sc_read_row.nd
  have hu := hr.units0
  refine ⟨_, (pss_cons (ps_set (i := 3) nd rfl (Or.inl rfl) (pe_meth (pv 0) RC.cl RC.m_read_operand G_read_operand (hr.mono (by omega)) RC.b_read_operand .nil pass_out (pa_cons (pv 2) pa_nil)))
      (pss_cons (ps_while PassesOwn.leaving (pt_cmpR op_ge (pe_getTop (K := K) (w := w) (pe_glob (v := .ref _) rfl m_STRENGTHS rfl) (pa_cons (pe_meth0 (pv 0) RC.cl RC.m_ahead G_ahead (hr.mono (by omega)) RC.b_ahead .nil pass0 ) (pa_cons pe_int pa_nil))) (pv 1) rfl) (pss_cons (ps_set (i := 4) nd rfl (Or.inl rfl) (pe_meth0 (pv 0) RC.cl RC.m_take G_take (hr.mono (by omega)) RC.b_take .nil pass0 ))
      (pss_cons (ps_set (i := 5) nd rfl (Or.inl rfl) (pe_meth (pv 0) RC.cl RC.m_read_row G_read_row (hr.mono (by omega)) RC.b_read_row .nil pass_out (pa_cons (pe_call G_strength_behind (hr.mono (by first | decide | omega)) rfl m_strength_behind k_strength_behind b_strength_behind .nil pass0 (pa_cons (pv 4) pa_nil)) (pa_cons (pe_op uAdd (pv 2) pe_int) pa_nil))))
      (pss_cons (ps_expr (pe_meth (pv 0) RC.cl RC.m_refuse_side_by_side G_refuse_side_by_side (hr.mono (by omega)) RC.b_refuse_side_by_side .nil pass_out (pa_cons (pv 4) pa_nil)))
      (pss_one (ps_set (i := 3) nd rfl (Or.inl rfl) (pe_tup (pa_cons pe_str (pa_cons (pv 4) (pa_cons (pv 3) (pa_cons (pv 5) pa_nil)))))))))))
      (pss_one (ps_ret (pv 3))))), ?_⟩
  exact mth hR rfl (fun _ _ => rfl) ⟨_, rfl, R, i, level, rfl, hR, g, pre, fun t j r H1 eo => (by cases eo), fun eo H1 => q.2 rfl H1⟩
theorem ok_read_row (F : Fun K "read_row" "Reader.read_row" s_read_row (mf "read_row") (md "read_row")) (RC : RCls K C mf md) (m_STRENGTHS : mg "STRENGTHS" = some (.ref sd)) (TD : TopD w K sd SD)
    (G_strength_behind : FnOk P w K mg base CX0 1 f_strength_behind d_strength_behind ["sign"] spBehind) (b_strength_behind : Binds K d_strength_behind ["sign"] []) (k_strength_behind : PySem.W.keepIn K (.ref f_strength_behind) = true) (m_strength_behind : mg "strength_behind" = some (.ref f_strength_behind))
    (G_ahead : FnOk P w K mg base CX0 1 (mf "ahead") (md "ahead") ["self"] (spAhead C)) (G_take : FnOk P w K mg base CX0 2 (mf "take") (md "take") ["self"] (spTake C))
    (G_refuse_side_by_side : FnOk P w K mg base (CXr P w) 2 (mf "refuse_side_by_side") (md "refuse_side_by_side") ["self", "sign"] (spSide C cT))
    (G_read_operand : FnOk P w K mg base (CXr P w) (7 * n + 12) (mf "read_operand") (md "read_operand") ["self", "level"] (spOp C cT (n + 1))) (G_read_row : FnOk P w K mg base (CXr P w) (7 * n + 6) (mf "read_row") (md "read_row") ["self", "least", "level"] (spRow C cT n)) :
    FnOk P w K mg base (CXr P w) (7 * n + 13) (mf "read_row") (md "read_row") ["self", "least", "level"] (spRow C cT (n + 1)) := by
  refine F.okX sc_read_row (fun vs H Q E h => ?_) (fun cdv A outer s H vs Q E hr h => ?_)
  · obtain ⟨R, i, least, level, rfl, _⟩ := h
    rfl
  obtain ⟨R, i, least, level, rfl, hR, g, hle, pre, q⟩ := h
  have nd := sc_read_row.nd
  have hu := hr.units0
  have z4 : (4 : Nat) ≤ sizeLine := by decide
  refine ⟨_, (pss_cons (ps_set (i := 3) nd rfl (Or.inl rfl) (pe_meth (pv 0) RC.cl RC.m_read_operand G_read_operand (hr.mono (by omega)) RC.b_read_operand .nil pass_out (pa_cons (pv 2) pa_nil)))
      (pss_cons (ps_while PassesOwn.leaving (pt_cmpR op_ge (pe_getTop (K := K) (w := w) (pe_glob (v := .ref _) rfl m_STRENGTHS rfl) (pa_cons (pe_meth0 (pv 0) RC.cl RC.m_ahead G_ahead (hr.mono (by omega)) RC.b_ahead .nil pass0 ) (pa_cons pe_int pa_nil))) (pv 1) rfl) (pss_cons (ps_set (i := 4) nd rfl (Or.inl rfl) (pe_meth0 (pv 0) RC.cl RC.m_take G_take (hr.mono (by omega)) RC.b_take .nil pass0 ))
      (pss_cons (ps_set (i := 5) nd rfl (Or.inl rfl) (pe_meth (pv 0) RC.cl RC.m_read_row G_read_row (hr.mono (by omega)) RC.b_read_row .nil pass_out (pa_cons (pe_call G_strength_behind (hr.mono (by first | decide | omega)) rfl m_strength_behind k_strength_behind b_strength_behind .nil pass0 (pa_cons (pv 4) pa_nil)) (pa_cons (pe_op uAdd (pv 2) pe_int) pa_nil))))
      (pss_cons (ps_expr (pe_meth (pv 0) RC.cl RC.m_refuse_side_by_side G_refuse_side_by_side (hr.mono (by omega)) RC.b_refuse_side_by_side .nil pass_out (pa_cons (pv 4) pa_nil)))
      (pss_one (ps_set (i := 3) nd rfl (Or.inl rfl) (pe_tup (pa_cons pe_str (pa_cons (pv 4) (pa_cons (pv 3) (pa_cons (pv 5) pa_nil)))))))))))
      (pss_one (ps_ret (pv 3))))), ?_⟩
  have q : Ret C cT R H ((opdN R.ws (n + 1) level i).bind fun r => rowLoop R.ws (rowN R.ws n) least level (R.ws.length + 1) r.1 r.2) TmAt Q E := q
  refine mth hR rfl (fun _ _ => rfl) ⟨_, rfl, R, i, level, rfl, hR, g, pre, fun t j r H1 eo b1 hR1 ht => ?_, fun eo H1 => ?_⟩
  case refine_2 => rw [eo] at q; exact q.2 rfl H1
  have hb := (both_bal (ws := R.ws) plainK (n + 1)).2 _ _ _ eo
  have hst : stAt R.ws j = stAt R.ws i := hb.2.1
  have hjl : j ≤ R.ws.length := hb.2.2
  rw [eo] at q
  simp only [Option.bind_some] at q
  have q := q.from b1
  obtain ⟨oo, hoo⟩ : ∃ oo, rowLoop R.ws (rowN R.ws n) least level (R.ws.length + 1) t j = oo := ⟨_, rfl⟩
  rw [hoo] at q
  refine ⟨fun m σ H' => ∃ (k m' : Nat) (u : Tm) (v : V) (y z : Option V), σ = [some (.ref R.a), some (.int (least : Nat)), some (.int (level : Nat)), some v, y, z] ∧ But R.a H1 H' ∧ RAt C H' R k ∧ TmAt H' u v ∧ stAt R.ws k = stAt R.ws i ∧ k ≤ R.ws.length ∧ rowLoop R.ws (rowN R.ws n) least level m' u k = oo ∧ R.ws.length < m' + k ∧ m = R.ws.length - k,
    ⟨_, j, R.ws.length + 1, t, r, none, none, rfl, But.refl, hR1, ht, hst, hjl, hoo, by omega, rfl⟩, ?_⟩
  rintro m σ H2 ⟨k, m', u, v, y, z, rfl, b2, hR2, hu2, hst2, hkl, ho, hmk, rfl⟩
  refine ⟨sd, SD, rfl, TD, mth hR2 rfl (fun _ _ => rfl) ⟨R, k, rfl, hR2, g.len, _, _, rfl, _, rfl, _, _, sd_get _, rfl, _, rfl, ?_⟩⟩
  by_cases eb : least ≤ strength (ahead R.ws k)
  · obtain ⟨hn, hd0⟩ := strength_plain (Nat.le_trans hle eb)
    have hkl2 := ahead_lt hn
    have hs3 := st_next hn
    obtain ⟨m', rfl⟩ : ∃ x, m' = x + 1 := ⟨m' - 1, by omega⟩
    unfold rowLoop at ho
    rw [if_pos eb] at ho
    refine ifT (decide_eq_true (by omega)) ⟨_, fun _ _ h => h, ?_⟩
    refine mth hR2 rfl (fun _ _ => rfl) ⟨R, k, rfl, hR2, g.len, fun H3 b3 hR3 => ?_⟩
    have hu3 := hu2.mono (hR2.tups b3)
    refine mth hR3 rfl (fun _ _ => rfl) ⟨_, rfl, ahead R.ws k, rfl, Nat.le_trans hle eb, _, rfl, .inl ⟨_, _, rfl, rfl, R, k + 1, behind (ahead R.ws k), level + 1, rfl, hR3, g, behind_pos _, ⟨by have := pre.1; omega, pre.2⟩, fun t4 j4 v4 H4 eo4 b4 hR4 ht4 => ?_, fun eo4 H4 => ?_⟩⟩
    · have hb4 := (both_bal (ws := R.ws) plainK n).1 _ _ _ _ (behind_pos _) eo4
      have l4 : stAt R.ws j4 = stAt R.ws (k + 1) := hb4.2.1
      have l5 : k + 1 < j4 := hb4.1
      have l6 : j4 ≤ R.ws.length := hb4.2.2
      rw [eo4] at ho
      simp only [Option.bind_some] at ho
      have hu4 := hu3.mono (hR3.tups b4)
      refine mth hR4 rfl (fun _ _ => rfl) ⟨_, rfl, R, j4, ahead R.ws k, rfl, hR4, g, fun hc => ?_, fun hc => ?_⟩
      · rw [hc, if_neg Bool.false_ne_true] at ho
        refine ⟨_, rfl, _, rfl, _, rfl, z4, fun p hp => ?_⟩
        have s5 := same_new hp (.tup [.str "two", .str (tx (ahead R.ws k)), v, v4])
        have t5 := BU.tups_of s5
        exact ⟨R.ws.length - j4, by omega, j4, m', _, _, _, _, rfl, ((b2.trans b3).trans b4).trans (Same.but s5), hR4.same s5, .two upd_same (hu4.mono t5) (ht4.mono t5), by omega, l6, ho, by omega, rfl⟩
      · rw [hc, if_pos rfl] at ho
        exact q.2 ho.symm H4
    · rw [eo4] at ho
      exact q.2 ho.symm H4
  · have ho' : oo = some (u, k) := by
      cases m' with
      | zero => exact ho.symm
      | succ m' => unfold rowLoop at ho; rw [if_neg eb] at ho; exact ho.symm
    exact ifF (fun h => eb (by have := of_decide_eq_true h; omega)) ⟨_, rfl, q.1 u k v H2 ho' b2 hR2 hu2⟩
structure RFun (K : PySem.W.Frag) (mf : Str → Addr) (md : Str → FuncData) : Prop where
  ahead : Fun K "ahead" "Reader.ahead" s_ahead (mf "ahead") (md "ahead")
  take : Fun K "take" "Reader.take" s_take (mf "take") (md "take")
  expect : Fun K "expect" "Reader.expect" s_expect (mf "expect") (md "expect")
  read_name : Fun K "read_name" "Reader.read_name" s_read_name (mf "read_name") (md "read_name")
  goes_on : Fun K "goes_on" "Reader.goes_on" s_goes_on (mf "goes_on") (md "goes_on")
  read_names : Fun K "read_names" "Reader.read_names" s_read_names (mf "read_names") (md "read_names")
  read_terms : Fun K "read_terms" "Reader.read_terms" s_read_terms (mf "read_terms") (md "read_terms")
  read_term : Fun K "read_term" "Reader.read_term" s_read_term (mf "read_term") (md "read_term")
  read_row : Fun K "read_row" "Reader.read_row" s_read_row (mf "read_row") (md "read_row")
  refuse_side_by_side : Fun K "refuse_side_by_side" "Reader.refuse_side_by_side" s_refuse_side_by_side (mf "refuse_side_by_side") (md "refuse_side_by_side")
  read_operand : Fun K "read_operand" "Reader.read_operand" s_read_operand (mf "read_operand") (md "read_operand")
  read_tight_or_wide : Fun K "read_tight_or_wide" "Reader.read_tight_or_wide" s_read_tight_or_wide (mf "read_tight_or_wide") (md "read_tight_or_wide")
  read_if : Fun K "read_if" "Reader.read_if" s_read_if (mf "read_if") (md "read_if")
  read_let : Fun K "read_let" "Reader.read_let" s_read_let (mf "read_let") (md "read_let")
  read_fn : Fun K "read_fn" "Reader.read_fn" s_read_fn (mf "read_fn") (md "read_fn")
  read_tight : Fun K "read_tight" "Reader.read_tight" s_read_tight (mf "read_tight") (md "read_tight")
  read_named : Fun K "read_named" "Reader.read_named" s_read_named (mf "read_named") (md "read_named")
theorem ok_rows (RF : RFun K mf md) (B : NoG mg) (RC : RCls K C mf md) (X_BadText : XCls K mg "BadText" cT) {t1 t2 : Tok} (m_LEAST_STRENGTH : mg "LEAST_STRENGTH" = some (.int 1 t1)) (m_DEEPEST : mg "DEEPEST" = some (.int 16 t2))
    (m_ONE_WORDS : mg "ONE_WORDS" = some (.ref ow)) (OW : ∀ H : Hp, SqT K H ow oneVs) (m_STRENGTHS : mg "STRENGTHS" = some (.ref sd)) (TD : TopD w K sd SD)
    (G_strength_behind : FnOk P w K mg base CX0 1 f_strength_behind d_strength_behind ["sign"] spBehind) (b_strength_behind : Binds K d_strength_behind ["sign"] []) (k_strength_behind : PySem.W.keepIn K (.ref f_strength_behind) = true) (m_strength_behind : mg "strength_behind" = some (.ref f_strength_behind))
    (G_is_name : FnOk P w K mg base CX0 2 f_is_name d_is_name ["word"] K10.spName) (b_is_name : Binds K d_is_name ["word"] []) (k_is_name : PySem.W.keepIn K (.ref f_is_name) = true) (m_is_name : mg "is_name" = some (.ref f_is_name))
    (G_is_number : FnOk P w K mg base CX0 2 f_is_number d_is_number ["word"] K10.spNum) (b_is_number : Binds K d_is_number ["word"] []) (k_is_number : PySem.W.keepIn K (.ref f_is_number) = true) (m_is_number : mg "is_number" = some (.ref f_is_number))
    (G_ahead : FnOk P w K mg base CX0 1 (mf "ahead") (md "ahead") ["self"] (spAhead C)) (G_take : FnOk P w K mg base CX0 2 (mf "take") (md "take") ["self"] (spTake C))
    (G_expect : FnOk P w K mg base (CXr P w) 3 (mf "expect") (md "expect") ["self", "wanted"] (spExpect C cT)) (G_read_name : FnOk P w K mg base (CXr P w) 3 (mf "read_name") (md "read_name") ["self"] (spReadName C cT))
    (G_goes_on : FnOk P w K mg base (CXr P w) 4 (mf "goes_on") (md "goes_on") ["self", "many"] (spGoes C cT))
    (G_refuse_side_by_side : FnOk P w K mg base (CXr P w) 2 (mf "refuse_side_by_side") (md "refuse_side_by_side") ["self", "sign"] (spSide C cT)) :
    ∀ n, FnOk P w K mg base (CXr P w) (7 * n + 6) (mf "read_row") (md "read_row") ["self", "least", "level"] (spRow C cT n) ∧ FnOk P w K mg base (CXr P w) (7 * n + 5) (mf "read_operand") (md "read_operand") ["self", "level"] (spOp C cT n) := by
  intro n
  induction n with
  | zero =>
    have O := ok_read_operand0 (P := P) (w := w) (base := base) RF.read_operand RC X_BadText m_DEEPEST m_ONE_WORDS
    exact ⟨ok_read_row0 RF.read_row RC m_STRENGTHS b_strength_behind k_strength_behind m_strength_behind O, O⟩
  | succ n ih =>
    have T := ok_read_term RF.read_term RC m_LEAST_STRENGTH ih.1
    have TS := ok_read_terms RF.read_terms B RC G_expect G_goes_on T
    have N := ok_read_named RF.read_named RC G_ahead TS
    have Ti := ok_read_tight RF.read_tight B RC X_BadText G_take G_expect T N G_is_name b_is_name k_is_name m_is_name G_is_number b_is_number k_is_number m_is_number
    have I := ok_read_if RF.read_if RC G_expect T
    have L := ok_read_let RF.read_let RC G_expect G_read_name T
    have Fn := ok_read_fn RF.read_fn RC G_expect G_read_name T
    have TW := ok_read_tight_or_wide RF.read_tight_or_wide RC G_ahead I L Fn Ti
    have O := ok_read_operand RF.read_operand RC X_BadText m_DEEPEST m_ONE_WORDS OW G_ahead G_take ih.2 TW
    exact ⟨ok_read_row RF.read_row RC m_STRENGTHS TD G_strength_behind b_strength_behind k_strength_behind m_strength_behind G_ahead G_take G_refuse_side_by_side O ih.1, O⟩
end
end RD
set_option maxHeartbeats 4000000
namespace RD
open PySem L2
seal PE PT PW PA PS PSs PTs PI PG PGs PO
abbrev s_read_function : Stmt := inClass (top 39) 5
abbrev s_read_program : Stmt := inClass (top 39) 4
abbrev s_init : Stmt := inClass (top 39) 0
abbrev s_refuse_many_brackets : Stmt := top 36
theorem sc_read_function : FnScope ["self", "name", "names"] ["self"] (defScope s_read_function) := ⟨rfl, rfl, rfl, by decide +kernel, rfl, by decide +kernel, by decide +kernel⟩
theorem sc_read_program : FnScope ["self", "functions"] ["self"] (defScope s_read_program) := ⟨rfl, rfl, rfl, by decide +kernel, rfl, by decide +kernel, by decide +kernel⟩
theorem sc_init : FnScope ["self", "found"] ["self", "found"] (defScope s_init) := ⟨rfl, rfl, rfl, by decide +kernel, rfl, by decide +kernel, by decide +kernel⟩
theorem sc_refuse_many_brackets : FnScope ["found", "standing", "word"] ["found"] (defScope s_refuse_many_brackets) := ⟨rfl, rfl, rfl, by decide +kernel, rfl, by decide +kernel, by decide +kernel⟩
def FdAt (H : Hp) (d : Fd) (r : V) : Prop := ∃ p v c, r = .ref p ∧ H p = some (.tup [.str "def", .str (tx d.name), .ref c, v]) ∧ H c = some (.tup (wds d.names)) ∧ TmAt H d.body v
theorem FdAt.mono {H H' : Hp} (m : BU.Tups H H') {d : Fd} {r : V} (h : FdAt H d r) : FdAt H' d r := by
  obtain ⟨p, v, c, e, h1, h2, h3⟩ := h
  exact ⟨p, v, c, e, m _ _ h1, m _ _ h2, h3.mono m⟩
theorem st_get {ws : List Wd} {i : Nat} (hi : i < ws.length) : stAt ws (i + 1) = stAt ws i + delta ws[i] := by
  unfold stAt
  rw [List.take_succ_eq_append_getElem hi, stands_app]
  simp only [stands]
  omega
theorem ok_st : ∀ (r : List Wd) (a : Int), bracketsOk a r = true → ∀ j, a ≤ 16 → a + stands (r.take j) ≤ 16
  | [], a, _, j, ha => by simp [stands]; exact ha
  | w :: r, a, h, 0, ha => by simp [stands]; exact ha
  | w :: r, a, h, j + 1, ha => by
    simp only [bracketsOk, Bool.and_eq_true, decide_eq_true_eq] at h
    have := ok_st r (a + delta w) h.2 j h.1
    simp only [List.take_succ_cons, stands]
    omega
theorem pre_of {ws : List Wd} (h : bracketsOk 0 ws = true) : ∀ j, stAt ws j ≤ 16 := fun j => by
  have := ok_st ws 0 h j (by decide)
  unfold stAt
  omega
section
variable {P : Program} {w : World} {K : PySem.W.Frag} {mg : Str → Option Value} {base : Heap} {C cT : Addr} {mf : Str → Addr} {md : Str → FuncData} {f fi : Addr} {fd di : FuncData}
def spFunction (C cT : Addr) : Sp := fun vs H Q E => ∃ R i, vs = [.ref R.a] ∧ RAt C H R i ∧ Good R.ws ∧ stAt R.ws i = 0 ∧ (∀ j, stAt R.ws j ≤ 16) ∧ Ret C cT R H (rFunction K10.isName R.ws (rowN R.ws 32) i) FdAt Q E
theorem ok_read_function (F : Fun K "read_function" "Reader.read_function" s_read_function (mf "read_function") (md "read_function")) (RC : RCls K C mf md)
    (G_expect : FnOk P w K mg base (CXr P w) 3 (mf "expect") (md "expect") ["self", "wanted"] (spExpect C cT)) (G_read_name : FnOk P w K mg base (CXr P w) 3 (mf "read_name") (md "read_name") ["self"] (spReadName C cT))
    (G_read_names : FnOk P w K mg base (CXr P w) 5 (mf "read_names") (md "read_names") ["self"] (spNames C cT)) (G_read_term : FnOk P w K mg base (CXr P w) (7 * 32 + 7) (mf "read_term") (md "read_term") ["self", "level"] (spTerm C cT 32)) :
    FnOk P w K mg base (CXr P w) 232 (mf "read_function") (md "read_function") ["self"] (spFunction C cT) := by
  refine F.okX sc_read_function (fun vs H Q E h => ?_) (fun cdv A outer s H vs Q E hr h => ?_)
  · obtain ⟨R, i, rfl, _⟩ := h
    rfl
  obtain ⟨R, i, rfl, hR, g, hs0, h16, q⟩ := h
  have nd := sc_read_function.nd
  refine ⟨_, (pss_cons (ps_expr (pe_meth (pv 0) RC.cl RC.m_expect G_expect (hr.mono (by omega)) RC.b_expect .nil pass_out (pa_cons pe_str pa_nil)))
      (pss_cons (ps_set (i := 1) nd rfl (Or.inl rfl) (pe_meth0 (pv 0) RC.cl RC.m_read_name G_read_name (hr.mono (by omega)) RC.b_read_name .nil pass_out ))
      (pss_cons (ps_set (i := 2) nd rfl (Or.inl rfl) (pe_meth0 (pv 0) RC.cl RC.m_read_names G_read_names (hr.mono (by omega)) RC.b_read_names .nil pass_out ))
      (pss_cons (ps_expr (pe_meth (pv 0) RC.cl RC.m_expect G_expect (hr.mono (by omega)) RC.b_expect .nil pass_out (pa_cons pe_str pa_nil)))
      (pss_one (ps_ret (pe_tup (pa_cons pe_str (pa_cons (pv 1) (pa_cons (pv 2) (pa_cons (pe_meth (pv 0) RC.cl RC.m_read_term G_read_term (hr.mono (by omega)) RC.b_read_term .nil pass_out (pa_cons pe_int pa_nil)) pa_nil))))))))))), ?_⟩
  unfold rFunction at q
  refine mth hR rfl (fun _ _ => rfl) ⟨R, i, _, wDef, rfl, by decide +kernel, by decide, by decide, hR, g, fun _ i1 r H1 eo b1 hR1 hr1 => ?_, fun eo H1 => ?_⟩
  case refine_2 => rw [Option.map_eq_none_iff.mp eo] at q; exact q.2 rfl H1
  obtain ⟨j', he, ej⟩ := Option.map_eq_some_iff.mp eo
  cases ej
  have l1 := (expect_bal he (by simp) (by decide)).2.1
  rw [he] at q
  simp only [Option.bind_some] at q
  have q := q.from b1
  refine mth hR1 rfl (fun _ _ => rfl) ⟨R, i1, rfl, hR1, g, fun x k1 r H2 eo b2 hR2 hx => ?_, fun eo H2 => ?_⟩
  case refine_2 => rw [eo] at q; exact q.2 rfl H2
  subst hx
  have l2 : stAt R.ws k1 = _ := (rName_bal plainK eo).2.1
  rw [eo] at q
  simp only [Option.bind_some] at q
  have q := q.from b2
  refine mth hR2 rfl (fun _ _ => rfl) ⟨R, k1, rfl, hR2, g, fun ns k2 r H3 eo b3 hR3 hns => ?_, fun eo H3 => ?_⟩
  case refine_2 => rw [eo] at q; exact q.2 rfl H3
  obtain ⟨c, rfl, hc⟩ := hns
  have l3 : stAt R.ws k2 = _ := (rNames_bal plainK eo).2.1
  rw [eo] at q
  simp only [Option.bind_some] at q
  have q := q.from b3
  refine mth hR3 rfl (fun _ _ => rfl) ⟨R, k2, _, wEq, rfl, by decide +kernel, by decide, by decide, hR3, g, fun _ i2 r H4 eo b4 hR4 hr4 => ?_, fun eo H4 => ?_⟩
  case refine_2 => rw [Option.map_eq_none_iff.mp eo] at q; exact q.2 rfl H4
  obtain ⟨j', he, ej⟩ := Option.map_eq_some_iff.mp eo
  cases ej
  have l4 := (expect_bal he (by simp) (by decide)).2.1
  rw [he] at q
  simp only [Option.bind_some] at q
  have q := q.from b4
  have hc4 := hR3.tups b4 _ _ hc
  refine ⟨_, rfl, _, rfl, mth hR4 rfl (fun _ _ => rfl) ⟨R, i2, 1, rfl, hR4, g, ⟨by omega, h16⟩, fun t j v H5 eo b5 hR5 ht => ?_, fun eo H5 => ?_⟩⟩
  case refine_2 => rw [eo] at q; exact q.2 rfl H5
  rw [eo] at q
  have q := q.from b5
  refine ⟨by show 4 ≤ sizeLine; decide, fun p hp => ?_⟩
  have s6 := same_new hp (.tup [.str "def", .str (tx x), .ref c, v])
  exact q.1 _ _ _ _ rfl (Same.but s6) (hR5.same s6) ⟨p, v, c, rfl, upd_same, s6 _ _ (hR4.tups b5 _ _ hc4), ht.mono (BU.tups_of s6)⟩
theorem rFunction_bal {ws : List Wd} {n i : Nat} {r : Fd × Nat} (h : rFunction K10.isName ws (rowN ws n) i = some r) : Bal ws i r.2 := by
  unfold rFunction at h
  simp only [Option.bind_eq_some_iff, Option.map_eq_some_iff] at h
  obtain ⟨i1, e1, x, e2, ns, e3, i2, e4, r1, e5, rfl⟩ := h
  exact (expect_bal e1 (by simp) (by decide)).trans ((rName_bal plainK e2).trans ((rNames_bal plainK e3).trans ((expect_bal e4 (by simp) (by decide)).trans ((both_bal (ws := ws) plainK n).1 _ _ _ r1 (Nat.le_refl 1) e5))))
def spProgram (C cT : Addr) : Sp := fun vs H Q E => ∃ R, vs = [.ref R.a] ∧ RAt C H R 0 ∧ Good R.ws ∧ (∀ j, stAt R.ws j ≤ 16) ∧
  (∀ fs p us H', rProgram K10.isName R.ws (rowN R.ws 32) = some fs → H' p = some (.tup us) → BU.All2 (FdAt H') fs us → But R.a H H' → Q (.ref p) H') ∧ (rProgram K10.isName R.ws (rowN R.ws 32) = none → ∀ H', E (.ref cT) none H')
theorem ok_read_program (F : Fun K "read_program" "Reader.read_program" s_read_program (mf "read_program") (md "read_program")) (B : NoG mg) (RC : RCls K C mf md) (X_BadText : XCls K mg "BadText" cT) {t1 : Tok} (m_MOST_FUNCTIONS : mg "MOST_FUNCTIONS" = some (.int 12 t1))
    (G_ahead : FnOk P w K mg base CX0 1 (mf "ahead") (md "ahead") ["self"] (spAhead C)) (G_read_function : FnOk P w K mg base (CXr P w) 232 (mf "read_function") (md "read_function") ["self"] (spFunction C cT)) :
    FnOk P w K mg base (CXr P w) 233 (mf "read_program") (md "read_program") ["self"] (spProgram C cT) := by
  refine F.okX sc_read_program (fun vs H Q E h => ?_) (fun cdv A outer s H vs Q E hr h => ?_)
  · obtain ⟨R, rfl, _⟩ := h
    rfl
  obtain ⟨R, rfl, hR, g, h16, q1, q2⟩ := h
  have nd := sc_read_program.nd
  have hu := hr.units0
  have zz : (20 : Nat) < sizeLine := by decide
  refine ⟨_, (pss_cons (ps_set (i := 1) nd rfl (Or.inl rfl) (pe_lst (pa_cons (pe_meth0 (pv 0) RC.cl RC.m_read_function G_read_function (hr.mono (by omega)) RC.b_read_function .nil pass_out ) pa_nil)))
      (pss_cons (ps_while PassesOwn.leaving (pt_cmpR (kNe (K := K) hu) (pe_meth0 (pv 0) RC.cl RC.m_ahead G_ahead (hr.mono (by omega)) RC.b_ahead .nil pass0 ) pe_str rfl) (pss_cons (ps_if (pt_cmpR (kEq (K := K) hu) (pe_callB (k_len (K := K)) rfl B.len_ bt_len (pa_cons (pv 1) pa_nil)) (pe_glob (v := .int 12) rfl m_MOST_FUNCTIONS ⟨_, rfl⟩) rfl) (pss_one (ps_raise PySem.F.excBase_ValueError (by decide) X_BadText.q rfl X_BadText.m (pa_cons (pe_fstr (pj_cons (pp_str (by decide)) (pj_cons (pp_int (pe_glob (v := .int 12) rfl m_MOST_FUNCTIONS ⟨_, rfl⟩)) (pj_cons (pp_str (by decide)) pj_nil)))) pa_nil))) pss_nil)
      (pss_one (ps_expr (k_bm (K := K) PySem.F.plainAttrs_list PySem.F.slot_list_append PySem.F.type_list_append mt_append (pv 1) (pa_cons (pe_meth0 (pv 0) RC.cl RC.m_read_function G_read_function (hr.mono (by omega)) RC.b_read_function .nil pass_out ) pa_nil))))))
      (pss_one (ps_ret (pe_callTy (k_tuple (K := K)) rfl B.tuple_ bt_tuple (pa_cons (pv 1) pa_nil)))))), ?_⟩
  refine mth hR rfl (fun _ _ => rfl) ⟨R, 0, rfl, hR, g, rfl, h16, fun d j r H1 eo b1 hR1 hd => ?_, fun eo H1 => ?_⟩
  case refine_2 =>
    refine q2 ?_ H1
    unfold rProgram
    rw [eo]
    rfl
  have hst : stAt R.ws j = stAt R.ws 0 := (rFunction_bal eo).2.1
  have ep : rProgram K10.isName R.ws (rowN R.ws 32) = (progLoop K10.isName R.ws (rowN R.ws 32) 13 [d] j).map (·.1) := by
    unfold rProgram
    rw [eo]
    rfl
  rw [ep] at q1 q2
  clear ep
  obtain ⟨oo, hoo⟩ : ∃ oo, progLoop K10.isName R.ws (rowN R.ws 32) 13 [d] j = oo := ⟨_, rfl⟩
  rw [hoo] at q1 q2
  refine ⟨by show 1 ≤ sizeLine; decide, fun nl hnl => ?_⟩
  have hln : R.l ≠ nl := by
    obtain ⟨dx, _, h2⟩ := hR1
    exact ne_of_none h2 hnl
  have hnl0 : H nl = none ∨ nl = R.a := by
    by_cases e : nl = R.a
    · exact .inr e
    · left
      cases hq : H nl with
      | none => rfl
      | some o => have := b1 nl o e hq; rw [hnl] at this; cases this
  have hnla : nl ≠ R.a := by
    obtain ⟨dx, h1, _⟩ := hR1
    exact fun e => ne_of_none h1 hnl e.symm
  have hnlH : H nl = none := hnl0.resolve_right hnla
  have s2 := same_new hnl (.lst [r])
  refine ⟨fun m σ H' => ∃ (m' k : Nat) (acc : List Fd) (us : List V), σ = [some (.ref R.a), some (.ref nl)] ∧ But R.a H H' ∧ RAt C H' R k ∧ H' nl = some (.lst us) ∧ BU.All2 (FdAt H') acc us ∧ stAt R.ws k = 0 ∧ progLoop K10.isName R.ws (rowN R.ws 32) m' acc k = oo ∧ m' + acc.length = 14 ∧ acc.length ≤ 12 ∧ m = m',
    ⟨13, 13, j, [d], [r], rfl, b1.trans (Same.but s2), hR1.same s2, upd_same, .cons (hd.mono (BU.tups_of s2)) .nil, hst, hoo, rfl, (by show 1 ≤ 12; decide), rfl⟩, ?_⟩
  rintro m σ H3 ⟨_, k, acc, us, rfl, b3, hR3, hn3, hA3, hst3, ho, hma, hal, rfl⟩
  obtain ⟨m, rfl⟩ : ∃ x, m = x + 1 := ⟨m - 1, by omega⟩
  have hvl := hA3.len
  unfold progLoop at ho
  refine mth hR3 rfl (fun _ _ => rfl) ⟨R, k, rfl, hR3, g.len, .inl ⟨rfl, _, rfl, ?_⟩⟩
  have el : decide (V.str (tx (ahead R.ws k)) = V.str "") = decide (ahead R.ws k = []) := K10.eq_lit (l := []) (by decide +kernel)
  rw [el]
  by_cases e : ahead R.ws k = []
  · rw [if_pos e] at ho
    rw [decide_eq_true e]
    refine ifF (by decide) ⟨_, rfl, nl, _, rfl, .inl ⟨SqL.of hn3, fun p hp => ?_⟩⟩
    have s4 := same_new hp (.tup us)
    exact q1 acc p us _ (by rw [← ho]; rfl) upd_same (hA3.imp fun a b h => h.mono (BU.tups_of s4)) (b3.trans (Same.but s4))
  · rw [if_neg e] at ho
    rw [decide_eq_false e]
    refine ifT (by decide) ⟨_, fun _ _ h => h, ?_⟩
    refine ⟨_, rfl, _, _, rfl, .inl ⟨_, SqL.of hn3, rfl⟩, .inl ⟨rfl, _, rfl, ?_⟩⟩
    by_cases e12 : acc.length = 12
    · rw [if_pos e12] at ho
      refine ifT (decide_eq_true (by rw [← hvl, e12]; rfl)) ⟨_, rfl, by decide, by decide +kernel, fun z hz => ⟨by show 1 ≤ sizeLine; decide, q2 (by rw [← ho]; rfl) H3⟩⟩
    · rw [if_neg e12] at ho
      refine ifF (fun h => e12 (by have := of_decide_eq_true h; injection this with h; omega)) ?_
      refine ⟨_, rfl, .inl ⟨rfl, _, SqL.of hn3⟩, mth hR3 rfl (fun _ _ => rfl) ⟨R, k, rfl, hR3, g, hst3, h16, fun d4 j4 r4 H4 eo4 b4 hR4 hd4 => ?_, fun eo4 H4 => ?_⟩⟩
      · have hn4 := hR3.keep b4 hn3
        have l4 : stAt R.ws j4 = stAt R.ws k := (rFunction_bal eo4).2.1
        rw [eo4] at ho
        simp only [Option.bind_some] at ho
        refine ⟨nl, _, _, rfl, rfl, hn4, by omega, ?_⟩
        have t5 : BU.Tups H4 (upd H4 nl (.lst (us ++ [r4]))) := .lst hn4 _
        exact ⟨m, Nat.lt_succ_self _, m, j4, acc ++ [d4], us ++ [r4], rfl, but_new (b3.trans b4) hnlH, hR4.list hn4 hln, upd_same, ((hA3.imp fun a b h => h.mono (hR3.tups b4)).app (.cons hd4 .nil)).imp fun a b h => h.mono t5, by omega, ho, by simp; omega, by simp; omega, rfl⟩
      · rw [eo4] at ho
        exact q2 (by rw [← ho]; rfl) H4
def spInit (C : Addr) : Sp := fun vs H Q _ => ∃ x dx l, vs = [.ref x, .ref l] ∧ H x = some (.ins C dx []) ∧ Q .non (upd H x (.ins C dx [("found", .ref l), ("place", .int 0)]))
theorem ok_init (F : Fun K "__init__" "Reader.__init__" s_init fi di) (RC : RCls K C mf md) : FnOk P w K mg base CX0 1 fi di ["self", "found"] (spInit C) := by
  refine F.ok sc_init (fun vs H Q E h => ?_) (fun cdv A outer s H vs Q E hr h => ?_)
  · obtain ⟨x, dx, l, rfl, _⟩ := h
    rfl
  obtain ⟨x, dx, l, rfl, h1, q⟩ := h
  have nd := sc_init.nd
  refine ⟨_, (pss_cons (ps_fld (pv 0) (pv 1) rfl)
      (pss_one (ps_fld (pv 0) pe_int rfl))), ?_⟩
  refine ⟨_, rfl, _, rfl, x, C, dx, _, rfl, h1, RC.cl, RC.nf, (by decide), ?_⟩
  refine ⟨_, rfl, x, C, dx, _, rfl, upd_same, RC.cl, RC.np, (by show 1 < 1000; decide), ?_⟩
  rw [upd_upd]
  exact q
end
end RD
set_option maxHeartbeats 4000000
namespace RD
open PySem L2
seal PE PT PW PA PS PSs PTs PI PG PGs PO
abbrev s_refuse_great : Stmt := top 37
abbrev s_read : Stmt := top 35
theorem sc_refuse_great : FnScope ["program", "size", "function", "body"] ["program"] (defScope s_refuse_great) := ⟨rfl, rfl, rfl, by decide +kernel, rfl, by decide +kernel, by decide +kernel⟩
theorem sc_read : FnScope ["text", "found", "program"] ["text"] (defScope s_read) := ⟨rfl, rfl, rfl, by decide +kernel, rfl, by decide +kernel, by decide +kernel⟩
theorem take_one {α : Type} {A : List α} {k : Nat} {t : α} (h : A[k]? = some t) : A.take (k + 1) = A.take k ++ [t] := by
  obtain ⟨h1, h2⟩ := List.getElem?_eq_some_iff.mp h
  rw [List.take_succ_eq_append_getElem h1, h2]
mutual
def Tm.kf : Tm → K15.Fo
  | .num _ => .nil
  | .truth _ => .nil
  | .non => .nil
  | .name _ => .nil
  | .two _ a b => .cons a.kf (.cons b.kf .nil)
  | .one _ a => .cons a.kf .nil
  | .if_ c a b => .cons c.kf (.cons a.kf (.cons b.kf .nil))
  | .let_ _ a b => .cons a.kf (.cons b.kf .nil)
  | .fn _ a => .cons a.kf .nil
  | .do_ f a => .cons f.kf (.cons a.kf .nil)
  | .call _ ts => kfs ts
def kfs : List Tm → K15.Fo
  | [] => .nil
  | t :: r => .cons t.kf (kfs r)
end
mutual
theorem kf_size : ∀ t : Tm, t.kf.size + 1 = t.size
  | .num _ => rfl
  | .truth _ => rfl
  | .non => rfl
  | .name _ => rfl
  | .two _ a b => by have := kf_size a; have := kf_size b; simp only [Tm.kf, Tm.size, K15.Fo.size]; omega
  | .one _ a => by have := kf_size a; simp only [Tm.kf, Tm.size, K15.Fo.size]; omega
  | .if_ c a b => by have := kf_size c; have := kf_size a; have := kf_size b; simp only [Tm.kf, Tm.size, K15.Fo.size]; omega
  | .let_ _ a b => by have := kf_size a; have := kf_size b; simp only [Tm.kf, Tm.size, K15.Fo.size]; omega
  | .fn _ a => by have := kf_size a; simp only [Tm.kf, Tm.size, K15.Fo.size]; omega
  | .do_ f a => by have := kf_size f; have := kf_size a; simp only [Tm.kf, Tm.size, K15.Fo.size]; omega
  | .call _ ts => by have := kfs_size ts; simp only [Tm.kf, Tm.size]; omega
theorem kfs_size : ∀ ts : List Tm, (kfs ts).size = sizes ts
  | [] => rfl
  | t :: r => by have := kf_size t; have := kfs_size r; simp only [kfs, sizes, K15.Fo.size]; omega
end
mutual
theorem kf_depth : ∀ t : Tm, t.kf.depth + 1 = t.depth
  | .num _ => rfl
  | .truth _ => rfl
  | .non => rfl
  | .name _ => rfl
  | .two _ a b => by have := kf_depth a; have := kf_depth b; simp only [Tm.kf, Tm.depth, K15.Fo.depth]; omega
  | .one _ a => by have := kf_depth a; simp only [Tm.kf, Tm.depth, K15.Fo.depth]; omega
  | .if_ c a b => by have := kf_depth c; have := kf_depth a; have := kf_depth b; simp only [Tm.kf, Tm.depth, K15.Fo.depth]; omega
  | .let_ _ a b => by have := kf_depth a; have := kf_depth b; simp only [Tm.kf, Tm.depth, K15.Fo.depth]; omega
  | .fn _ a => by have := kf_depth a; simp only [Tm.kf, Tm.depth, K15.Fo.depth]; omega
  | .do_ f a => by have := kf_depth f; have := kf_depth a; simp only [Tm.kf, Tm.depth, K15.Fo.depth]; omega
  | .call _ ts => by have := kfs_depth ts; simp only [Tm.kf, Tm.depth]; omega
theorem kfs_depth : ∀ ts : List Tm, (kfs ts).depth = depths ts
  | [] => rfl
  | t :: r => by have := kf_depth t; have := kfs_depth r; simp only [kfs, depths, K15.Fo.depth]; omega
end
theorem TmAt.ref {H : Hp} {t : Tm} {v : V} (h : TmAt H t v) : ∃ a, v = .ref a := by cases h <;> exact ⟨_, rfl⟩
mutual
theorem TmAt.fo {H : Hp} {t : Tm} {v : V} (h : TmAt H t v) : K15.FAt H [v] (.cons t.kf .nil) := by
  cases h with
  | num h => exact .cons h (.num _) .nil .nil
  | truth h => exact .cons h (.truth _) .nil .nil
  | non h => exact .cons h .non .nil .nil
  | name h => exact .cons h (.name _) .nil .nil
  | two h h1 h2 =>
    obtain ⟨a, rfl⟩ := h1.ref
    obtain ⟨b, rfl⟩ := h2.ref
    exact .cons h (.two _ a b) (h1.fo.app h2.fo) .nil
  | one h h1 =>
    obtain ⟨a, rfl⟩ := h1.ref
    exact .cons h (.one _ a) h1.fo .nil
  | if_ h h1 h2 h3 =>
    obtain ⟨a, rfl⟩ := h1.ref
    obtain ⟨b, rfl⟩ := h2.ref
    obtain ⟨c, rfl⟩ := h3.ref
    exact .cons h (.if_ a b c) (h1.fo.app (h2.fo.app h3.fo)) .nil
  | let_ h h1 h2 =>
    obtain ⟨a, rfl⟩ := h1.ref
    obtain ⟨b, rfl⟩ := h2.ref
    exact .cons h (.let_ _ a b) (h1.fo.app h2.fo) .nil
  | fn h h1 =>
    obtain ⟨a, rfl⟩ := h1.ref
    exact .cons h (.fn _ a) h1.fo .nil
  | do_ h h1 h2 =>
    obtain ⟨a, rfl⟩ := h1.ref
    obtain ⟨b, rfl⟩ := h2.ref
    exact .cons h (.do_ a b) (h1.fo.app h2.fo) .nil
  | call h hc h1 => exact .cons h (.call _ hc) h1.fo .nil
theorem TmsAt.fo {H : Hp} {ts : List Tm} {vs : List V} (h : TmsAt H ts vs) : K15.FAt H vs (kfs ts) := by
  cases h with
  | nil => exact .nil
  | cons h1 h2 => exact h1.fo.app h2.fo
end
section
variable {P : Program} {w : World} {K : PySem.W.Frag} {mg : Str → Option Value} {base : Heap} {C cT : Addr} {mf : Str → Addr} {md : Str → FuncData} {f f_depth_of f_size_of f_words f_refuse_many_brackets f_refuse_great fi : Addr} {fd d_depth_of d_size_of d_words d_refuse_many_brackets d_refuse_great di : FuncData}
def spBr (cT : Addr) : Sp := fun vs H Q E => ∃ l ws, vs = [.ref l] ∧ H l = some (.lst (wds ws)) ∧ (bracketsOk 0 ws = true → Q .non H) ∧ (bracketsOk 0 ws = false → E (.ref cT) none H)
theorem ok_refuse_many_brackets (F : Fun K "refuse_many_brackets" "refuse_many_brackets" s_refuse_many_brackets f fd) (X_BadText : XCls K mg "BadText" cT) {t1 : Tok} (m_MOST_BRACKETS : mg "MOST_BRACKETS" = some (.int 16 t1)) :
    FnOk P w K mg base (CXr P w) 1 f fd ["found"] (spBr cT) := by
  refine F.okX sc_refuse_many_brackets (fun vs H Q E h => ?_) (fun cdv A outer s H vs Q E hr h => ?_)
  · obtain ⟨l, ws, rfl, _⟩ := h
    rfl
  obtain ⟨l, ws, rfl, hl, q1, q2⟩ := h
  have nd := sc_refuse_many_brackets.nd
  have hu := hr.units0
  refine ⟨_, (pss_cons (ps_set (i := 1) nd rfl (Or.inl rfl) pe_int)
      (pss_one (ps_for PassesOwn.leaving rfl (k_ilist (K := K) (pv 0)) (pg_name (i := 2) nd rfl (Or.inl rfl)) (pss_cons (ps_cut (ps_if (pt_cmpR (kEq (K := K) hu) (pv 2) pe_str rfl) (pss_one (ps_aug (i := 1) nd rfl (Or.inl rfl) pe_int ip_add)) pss_nil))
      (pss_cons (ps_cut (ps_if (pt_cmpR (kEq (K := K) hu) (pv 2) pe_str rfl) (pss_one (ps_aug (i := 1) nd rfl (Or.inl rfl) pe_int ip_sub)) pss_nil))
      (pss_one (ps_if (pt_cmpR op_gt (pv 1) (pe_glob (v := .int 16) rfl m_MOST_BRACKETS ⟨_, rfl⟩) rfl) (pss_one (ps_raise PySem.F.excBase_ValueError (by decide) X_BadText.q rfl X_BadText.m (pa_cons (pe_fstr (pj_cons (pp_str (by decide)) (pj_cons (pp_int (pe_glob (v := .int 16) rfl m_MOST_BRACKETS ⟨_, rfl⟩)) (pj_cons (pp_str (by decide)) pj_nil)))) pa_nil))) pss_nil))))))), ?_⟩
  refine ⟨_, rfl, l, rfl, ⟨_, SqL.of hl⟩, for_list (xs := wds ws) (fun i σ H' => H = H' ∧ ∃ y, σ = [some (.ref l), some (.int (stAt ws i)), y] ∧ bracketsOk (stAt ws i) (ws.drop i) = bracketsOk 0 ws) ⟨rfl, none, rfl, rfl⟩ ?_ ?_ ?_⟩
  · rintro i σ H' hi ⟨rfl, _⟩
    exact SqL.of hl
  · rintro i x σ H' hx ⟨rfl, y, rfl, hb⟩
    rw [List.getElem?_map] at hx
    obtain ⟨v, hv, rfl⟩ := Option.map_eq_some_iff.mp hx
    obtain ⟨hi, rfl⟩ := List.getElem?_eq_some_iff.mp hv
    have hs := st_get hi
    rw [List.drop_eq_getElem_cons hi] at hb
    refine ⟨fun σ' H' => H = H' ∧ σ' = [some (.ref l), some (.int (stAt ws i + (if ws[i] = wOpen then 1 else 0))), some (.str (tx ws[i]))], ?_, ?_⟩
    · refine ⟨_, rfl, .inl ⟨rfl, _, rfl, ?_⟩⟩
      rw [K10.eq_lit (l := wOpen) (by decide +kernel)]
      by_cases e : ws[i] = wOpen
      · rw [decide_eq_true e]
        exact ifT rfl ⟨_, rfl, _, _, rfl, rfl, rfl, by rw [if_pos e]; rfl⟩
      · rw [decide_eq_false e]
        exact ifF (by decide) ⟨rfl, by rw [if_neg e, Int.add_zero]; rfl⟩
    rintro σ' H' ⟨rfl, rfl⟩
    refine ⟨fun σ' H' => H = H' ∧ σ' = [some (.ref l), some (.int (stAt ws (i + 1))), some (.str (tx ws[i]))], ?_, ?_⟩
    · refine ⟨_, rfl, .inl ⟨rfl, _, rfl, ?_⟩⟩
      rw [K10.eq_lit (l := wShut) (by decide +kernel)]
      by_cases e : ws[i] = wShut
      · rw [decide_eq_true e]
        refine ifT rfl ⟨_, rfl, _, _, rfl, rfl, rfl, ?_⟩
        rw [hs]
        unfold delta
        rw [if_pos e]
        show _ = [some (V.ref l), some (V.int (stAt ws i + ((if ws[i] = wOpen then 1 else 0) - 1))), some (V.str (tx ws[i]))]
        rw [← Int.add_sub_assoc]
        rfl
      · rw [decide_eq_false e]
        refine ifF (by decide) ⟨rfl, ?_⟩
        rw [hs]
        unfold delta
        rw [if_neg e, Int.sub_zero]
    rintro σ' H' ⟨rfl, rfl⟩
    simp only [bracketsOk] at hb
    rw [← hs] at hb
    refine ⟨_, rfl, _, _, rfl, rfl, _, rfl, ?_⟩
    by_cases e : stAt ws (i + 1) ≤ 16
    · rw [decide_eq_true e, Bool.true_and] at hb
      exact ifF (fun h => by have := of_decide_eq_true h; omega) ⟨rfl, _, rfl, hb⟩
    · rw [decide_eq_false e, Bool.false_and] at hb
      exact ifT (decide_eq_true (by omega)) ⟨_, rfl, by decide, by decide +kernel, fun z hz => ⟨by show 1 ≤ sizeLine; decide, q2 hb.symm⟩⟩
  · rintro σ H' ⟨rfl, y, rfl, hb⟩
    rw [List.length_map, List.drop_length] at hb
    exact q1 hb.symm
def spGreat (cT : Addr) : Sp := fun vs H Q E => ∃ p us fs, vs = [.ref p] ∧ H p = some (.tup us) ∧ BU.All2 (FdAt H) fs us ∧ (∀ d ∈ fs, d.body.size ≤ 1000) ∧ fs.length ≤ 100 ∧ ∀ H', Same H H' → (great fs = false → Q .non H') ∧ (great fs = true → E (.ref cT) none H')
theorem ok_refuse_great (F : Fun K "refuse_great" "refuse_great" s_refuse_great f fd) (X_BadText : XCls K mg "BadText" cT) {t1 t2 : Tok} (m_DEEPEST : mg "DEEPEST" = some (.int 16 t1)) (m_MOST_TERMS : mg "MOST_TERMS" = some (.int 400 t2))
    (G_depth_of : FnOk P w K mg base CX0 3 f_depth_of d_depth_of ["term"] K15.spDepth) (b_depth_of : Binds K d_depth_of ["term"] []) (k_depth_of : PySem.W.keepIn K (.ref f_depth_of) = true) (m_depth_of : mg "depth_of" = some (.ref f_depth_of))
    (G_size_of : FnOk P w K mg base CX0 3 f_size_of d_size_of ["term"] K15.spSize) (b_size_of : Binds K d_size_of ["term"] []) (k_size_of : PySem.W.keepIn K (.ref f_size_of) = true) (m_size_of : mg "size_of" = some (.ref f_size_of)) :
    FnOk P w K mg base (CXr P w) 4 f fd ["program"] (spGreat cT) := by
  refine F.okX sc_refuse_great (fun vs H Q E h => ?_) (fun cdv A outer s H vs Q E hr h => ?_)
  · obtain ⟨p, us, fs, rfl, _⟩ := h
    rfl
  obtain ⟨p, us, fs, rfl, hp, hA, hsz, hlen, q⟩ := h
  have nd := sc_refuse_great.nd
  have hu := hr.units0
  refine ⟨_, (pss_cons (ps_set (i := 1) nd rfl (Or.inl rfl) pe_int)
      (pss_cons (ps_for PassesOwn.leaving rfl (k_itup (K := K) (pv 0)) (pg_name (i := 2) nd rfl (Or.inl rfl)) (pss_cons (ps_set (i := 3) nd rfl (Or.inl rfl) (pe_ix (kIx (K := K) (w := w)) (pv 2) pe_int (fun _ _ => rfl)))
      (pss_cons (ps_if (pt_cmpR op_gt (pe_call G_depth_of (hr.mono (by first | decide | omega)) rfl m_depth_of k_depth_of b_depth_of .nil pass0 (pa_cons (pv 3) pa_nil)) (pe_glob (v := .int 16) rfl m_DEEPEST ⟨_, rfl⟩) rfl) (pss_one (ps_raise PySem.F.excBase_ValueError (by decide) X_BadText.q rfl X_BadText.m (pa_cons (pe_fstr (pj_cons (pp_str (by decide)) (pj_cons (pp_int (pe_glob (v := .int 16) rfl m_DEEPEST ⟨_, rfl⟩)) (pj_cons (pp_str (by decide)) pj_nil)))) pa_nil))) pss_nil)
      (pss_one (ps_aug (i := 1) nd rfl (Or.inl rfl) (pe_call G_size_of (hr.mono (by first | decide | omega)) rfl m_size_of k_size_of b_size_of .nil pass0 (pa_cons (pv 3) pa_nil)) ip_add)))))
      (pss_one (ps_if (pt_cmpR op_gt (pv 1) (pe_glob (v := .int 400) rfl m_MOST_TERMS ⟨_, rfl⟩) rfl) (pss_one (ps_raise PySem.F.excBase_ValueError (by decide) X_BadText.q rfl X_BadText.m (pa_cons (pe_fstr (pj_cons (pp_str (by decide)) (pj_cons (pp_int (pe_glob (v := .int 400) rfl m_MOST_TERMS ⟨_, rfl⟩)) (pj_cons (pp_str (by decide)) pj_nil)))) pa_nil))) pss_nil)))), ?_⟩
  have hul := hA.len
  refine ⟨_, rfl, p, rfl, ⟨_, SqT.of hp⟩, for_tup (xs := us) (fun i σ H' => Same H H' ∧ (∃ y z, σ = [some (.ref p), some (.int (((fs.take i).map fun d => d.body.size).sum : Nat)), y, z]) ∧ (fs.take i).any (fun d => decide (16 < d.body.depth)) = false) ⟨Same.refl _, ⟨none, none, rfl⟩, rfl⟩ ?_ ?_ ?_⟩
  · rintro i σ H' hi ⟨sm, _⟩
    exact SqT.of (sm _ _ hp)
  · rintro i x σ H1 hx ⟨sm, ⟨y, z, rfl⟩, hd⟩
    obtain ⟨d, hd1, p1, v, c, rfl, h1, h2, h3⟩ := hA.get hx
    have hm := hsz d (List.mem_of_getElem? hd1)
    obtain ⟨a, rfl⟩ := h3.ref
    have f1 := h3.fo.mono (K15.tups_of sm)
    have hks := kf_size d.body
    have hkd := kf_depth d.body
    have es : ((K15.Fo.cons d.body.kf .nil).size : Nat) = d.body.size := by simp only [K15.Fo.size]; omega
    have ed : ((K15.Fo.cons d.body.kf .nil).depth : Nat) = d.body.depth := by simp only [K15.Fo.depth]; omega
    refine ⟨_, rfl, .inr (.inl ⟨p1, _, 3, _, rfl, rfl, SqT.of (sm _ _ h1), rfl, ?_⟩)⟩
    refine ⟨_, rfl, a, _, rfl, f1, by omega, fun H2 s2 => ?_⟩
    refine ⟨_, _, rfl, rfl, _, rfl, ?_⟩
    rw [ed]
    by_cases e : 16 < d.body.depth
    · refine ifT (decide_eq_true (by omega)) ⟨_, rfl, by decide, by decide +kernel, fun z hz => ⟨by show 1 ≤ sizeLine; decide, (q H2 (sm.trans s2)).2 ?_⟩⟩
      unfold great
      rw [Bool.or_eq_true]
      exact .inl (List.any_eq_true.mpr ⟨d, List.mem_of_getElem? hd1, decide_eq_true e⟩)
    · refine ifF (fun h => e (by have := of_decide_eq_true h; omega)) ?_
      refine ⟨_, rfl, _, rfl, a, _, rfl, f1.mono (K15.tups_of s2), by omega, fun H3 s3 => ?_⟩
      refine ⟨_, _, rfl, rfl, sm.trans (s2.trans s3), ⟨some (.ref p1), some (.ref a), ?_⟩, ?_⟩
      · rw [take_one hd1, es]
        simp only [List.map_append, List.sum_append, List.map_cons, List.map_nil, List.sum_cons, List.sum_nil, Nat.add_zero]
        rfl
      · rw [take_one hd1, List.any_append, hd]
        simp [e]
  · rintro σ H1 ⟨sm, ⟨y, z, rfl⟩, hd⟩
    rw [← hul, List.take_length] at hd ⊢
    have hg : great fs = decide (400 < (fs.map fun d => d.body.size).sum) := by unfold great; rw [hd]; rfl
    refine ⟨_, rfl, _, _, rfl, rfl, _, rfl, ?_⟩
    by_cases e : 400 < (fs.map fun d => d.body.size).sum
    · exact ifT (decide_eq_true (by omega)) ⟨_, rfl, by decide, by decide +kernel, fun z hz => ⟨by show 1 ≤ sizeLine; decide, (q H1 sm).2 (by rw [hg]; exact decide_eq_true e)⟩⟩
    · exact ifF (fun h => e (by have := of_decide_eq_true h; omega)) ((q H1 sm).1 (by rw [hg]; exact decide_eq_false e))
end
end RD
set_option maxHeartbeats 4000000
namespace RD
open PySem L2
seal PE PT PW PA PS PSs PTs PI PG PGs PO
theorem wordAt_sub {t x : List Nat} (h : K10.wordAt t = some x) : x.length ≤ t.length ∧ ∀ c ∈ x, c ∈ t := by
  cases t with
  | nil => cases h
  | cons c r =>
    rw [K10.wordAt_cons] at h
    split at h
    · split at h
      · cases h
        exact ⟨(List.takeWhile_sublist _).length_le, fun d hd => (List.takeWhile_sublist _).subset hd⟩
      · cases h
    · split at h
      · rename_i h2
        cases h
        rw [← h2]
        exact ⟨(List.take_sublist _ _).length_le, fun d hd => (List.take_sublist _ _).subset hd⟩
      · split at h
        · cases h
          exact ⟨by simp, fun d hd => by
            have : d = c := by simpa using hd
            subst this
            exact List.mem_cons_self⟩
        · cases h
theorem cut_sub : ∀ (n : Nat) (t : List Nat) (ws : List Wd), K10.cut n t = some ws → ws.length ≤ t.length ∧ ∀ x ∈ ws, x.length ≤ t.length ∧ ∀ c ∈ x, c ∈ t
  | 0, t, ws, h => by cases h; exact ⟨Nat.zero_le _, fun x hx => by cases hx⟩
  | n + 1, [], ws, h => by cases h; exact ⟨Nat.zero_le _, fun x hx => by cases hx⟩
  | n + 1, c :: r, ws, h => by
    unfold K10.cut at h
    split at h
    · have ih := cut_sub n r ws h
      refine ⟨Nat.le_succ_of_le ih.1, fun x hx => ⟨Nat.le_succ_of_le (ih.2 x hx).1, fun d hd => List.mem_cons_of_mem _ ((ih.2 x hx).2 d hd)⟩⟩
    · cases hw : K10.wordAt (c :: r) with
      | none => rw [hw] at h; cases h
      | some x =>
        rw [hw] at h
        dsimp only at h
        obtain ⟨ys, hy, rfl⟩ := Option.map_eq_some_iff.mp h
        have ih := cut_sub n _ ys hy
        have hx := wordAt_sub hw
        have hp := K10.wordAt_pos hw
        have hdl : ((c :: r).drop x.length).length ≤ r.length := by rw [List.length_drop, List.length_cons]; omega
        refine ⟨by have := ih.1; simp only [List.length_cons]; omega, fun y hy' => ?_⟩
        rcases List.mem_cons.mp hy' with rfl | hy'
        · exact hx
        · have h2 := ih.2 y hy'
          exact ⟨by have := h2.1; simp only [List.length_cons]; omega, fun d hd => List.mem_of_mem_drop (h2.2 d hd)⟩
theorem progLoop_len {ws : List Wd} {row : Nat → Nat → Nat → Option (Tm × Nat)} : ∀ {m : Nat} {acc : List Fd} {i : Nat} {r : List Fd × Nat}, progLoop K10.isName ws row m acc i = some r → r.1.length ≤ acc.length + m
  | 0, acc, i, r, h => by cases h; exact Nat.le_refl _
  | m + 1, acc, i, r, h => by
    unfold progLoop at h
    split at h
    · cases h; exact Nat.le_add_right _ _
    · split at h
      · cases h
      · obtain ⟨q, e1, e2⟩ := Option.bind_eq_some_iff.mp h
        have := progLoop_len e2
        simp only [List.length_append, List.length_cons, List.length_nil] at this
        omega
theorem rProgram_len {ws : List Wd} {row : Nat → Nat → Nat → Option (Tm × Nat)} {fs : List Fd} (h : rProgram K10.isName ws row = some fs) : fs.length ≤ 14 := by
  unfold rProgram at h
  obtain ⟨q, e1, e2⟩ := Option.bind_eq_some_iff.mp h
  obtain ⟨r, e3, rfl⟩ := Option.map_eq_some_iff.mp e2
  exact progLoop_len e3
def readPure (l : List Nat) : Option (List Fd) := if l.length ≤ 4000 then (K10.words l).bind (readWords K10.isNum K10.isName) else none
structure Easy (l : List Nat) : Prop where
  len : l.length ≤ 100000
  sign : ∀ c ∈ l, c < 16 ^ 8
  one : ∀ ws, K10.words l = some ws → ∀ x ∈ ws, K10.isNum x = true → x = [49]
  size : ∀ ws fs, K10.words l = some ws → rProgram K10.isName ws (rowN ws 32) = some fs → ∀ d ∈ fs, d.body.size ≤ 1000
section
variable {P : Program} {w : World} {K : PySem.W.Frag} {mg : Str → Option Value} {base : Heap} {C cT : Addr} {mf : Str → Addr} {md : Str → FuncData} {f f_words f_refuse_many_brackets f_refuse_great fi : Addr} {fd d_words d_refuse_many_brackets d_refuse_great di : FuncData}
def spRead (cT : Addr) : Sp := fun vs H Q E => ∃ l, vs = [.str (tx l)] ∧ Easy l ∧ (∀ fs p us H', readPure l = some fs → H' p = some (.tup us) → BU.All2 (FdAt H') fs us → Same H H' → Q (.ref p) H') ∧ (readPure l = none → ∀ H', E (.ref cT) none H')
theorem ok_read (F : Fun K "read" "read" s_read f fd) (RC : RCls K C mf md) (M_Reader : Mk K C fi) (m_Reader : mg "Reader" = some (.ref C))
    (G___init__ : FnOk P w K mg base CX0 1 fi di ["self", "found"] (spInit C)) (b___init__ : Binds K di ["self", "found"] [])
    (G_words : FnOk P w K mg base (CXr P w) 5 f_words d_words ["text"] (K10.spWords cT)) (b_words : Binds K d_words ["text"] []) (k_words : PySem.W.keepIn K (.ref f_words) = true) (m_words : mg "words" = some (.ref f_words))
    (G_refuse_many_brackets : FnOk P w K mg base (CXr P w) 1 f_refuse_many_brackets d_refuse_many_brackets ["found"] (spBr cT)) (b_refuse_many_brackets : Binds K d_refuse_many_brackets ["found"] []) (k_refuse_many_brackets : PySem.W.keepIn K (.ref f_refuse_many_brackets) = true) (m_refuse_many_brackets : mg "refuse_many_brackets" = some (.ref f_refuse_many_brackets))
    (G_refuse_great : FnOk P w K mg base (CXr P w) 4 f_refuse_great d_refuse_great ["program"] (spGreat cT)) (b_refuse_great : Binds K d_refuse_great ["program"] []) (k_refuse_great : PySem.W.keepIn K (.ref f_refuse_great) = true) (m_refuse_great : mg "refuse_great" = some (.ref f_refuse_great))
    (G_read_program : FnOk P w K mg base (CXr P w) 233 (mf "read_program") (md "read_program") ["self"] (spProgram C cT)) :
    FnOk P w K mg base (CXr P w) 234 f fd ["text"] (spRead cT) := by
  refine F.okX sc_read (fun vs H Q E h => ?_) (fun cdv A outer s H vs Q E hr h => ?_)
  · obtain ⟨l, rfl, _⟩ := h
    rfl
  obtain ⟨l, rfl, ez, q1, q2⟩ := h
  have nd := sc_read.nd
  have hu := hr.units0
  refine ⟨_, (pss_cons (ps_set (i := 1) nd rfl (Or.inl rfl) (pe_call G_words (hr.mono (by first | decide | omega)) rfl m_words k_words b_words .nil pass_out (pa_cons (pv 0) pa_nil)))
      (pss_cons (ps_expr (pe_call G_refuse_many_brackets (hr.mono (by first | decide | omega)) rfl m_refuse_many_brackets k_refuse_many_brackets b_refuse_many_brackets .nil pass_out (pa_cons (pv 1) pa_nil)))
      (pss_cons (ps_set (i := 2) nd rfl (Or.inl rfl) (pe_meth0 (pe_make M_Reader G___init__ (hr.mono (by omega)) rfl m_Reader b___init__ .nil pass0 (pa_cons (pv 1) pa_nil)) RC.cl RC.m_read_program G_read_program (hr.mono (by omega)) RC.b_read_program .nil pass_out ))
      (pss_cons (ps_expr (pe_call G_refuse_great (hr.mono (by first | decide | omega)) rfl m_refuse_great k_refuse_great b_refuse_great .nil pass_out (pa_cons (pv 2) pa_nil)))
      (pss_one (ps_ret (pv 2))))))), ?_⟩
  refine ⟨_, rfl, l, rfl, ez.len, ez.sign, fun H1 s1 => ⟨fun ws r h4 hw hr0 hr1 => ?_, fun hbad => ?_⟩⟩
  case refine_2 =>
    refine q2 ?_ H1
    unfold readPure
    rcases hbad with h | h
    · rw [if_neg (by omega)]
    · rw [h]; split <;> rfl
  have s1 : Same H H1 := s1
  have hsub := cut_sub _ _ _ hw
  have hp0 : readPure l = readWords K10.isNum K10.isName ws := by unfold readPure; rw [if_pos h4, hw]; rfl
  rw [hp0] at q1 q2
  unfold readWords at q1 q2
  have g : Good ws := ⟨Nat.le_trans hsub.1 h4, fun x hx => ⟨Nat.le_trans (hsub.2 x hx).1 h4, fun c hc => ez.sign c ((hsub.2 x hx).2 c hc), ez.one ws hw x hx⟩⟩
  refine ⟨_, rfl, r, ws, rfl, hr1, fun hok => ?_, fun hbad => ?_⟩
  case refine_2 => exact q2 (by rw [hbad]; rfl) H1
  rw [if_pos hok] at q1 q2
  refine ⟨_, rfl, fun x dx hx hdx hne => ⟨x, dx, r, rfl, upd_same, rfl, ?_⟩⟩
  rw [upd_upd]
  have hxr : r ≠ x := ne_of_none hr1 hx
  have hdr : r ≠ dx := ne_of_none hr1 hdx
  have hr2 : (upd (upd H1 dx (.own x)) x (.ins C dx [("found", .ref r), ("place", .int 0)])) r = some (.lst (wds ws)) := by rw [upd_ne hxr, upd_ne hdr]; exact hr1
  have s2 : Same H1 (upd (upd H1 dx (.own x)) x (.ins C dx [("found", .ref r), ("place", .int 0)])) := fun b o e => by rw [upd_ne (ne_of_none e hx), upd_ne (ne_of_none e hdx)]; exact e
  have hx2 : (upd (upd H1 dx (.own x)) x (.ins C dx [("found", .ref r), ("place", .int 0)])) x = some (.ins C dx [("found", .ref r), ("place", .int 0)]) := upd_same
  generalize upd (upd H1 dx (.own x)) x (.ins C dx [("found", .ref r), ("place", .int 0)]) = H2 at hr2 s2 hx2 ⊢
  refine ⟨x, dx, _, rfl, hx2, rfl, ⟨x, r, ws⟩, rfl, ⟨dx, hx2, hr2⟩, g, pre_of hok, fun fs p us H3 ep hp hA b3 => ?_, fun ep H3 => ?_⟩
  case refine_2 => exact q2 (by rw [ep]; rfl) H3
  have ep' : rProgram K10.isName ws (both K10.isNum K10.isName ws 32).1 = some fs := ep
  rw [ep'] at q1 q2
  simp only [Option.bind_some] at q1 q2
  have hHx : H x = none := s1.free hx
  have s3 : Same H H3 := fun b o e => b3 b o (ne_of_none e hHx) (s2 _ _ (s1 _ _ e))
  refine ⟨_, rfl, p, us, fs, rfl, hp, hA, ez.size ws fs hw ep, Nat.le_trans (rProgram_len ep) (by decide), fun H4 s4 => ⟨fun hg => ?_, fun hg => ?_⟩⟩
  · exact ⟨_, rfl, q1 fs p us H4 (by rw [hg]; rfl) (s4 _ _ hp) (hA.imp fun a b h => h.mono (BU.tups_of s4)) (s3.trans s4)⟩
  · exact q2 (by rw [hg]; rfl) H4
end
end RD
namespace RD
abbrev bo (ws : List Wd) := both K10.isNum K10.isName ws
abbrev hd (r : List Wd) : Wd := r.headD []
theorem ahead_hd (ws : List Wd) (i : Nat) : ahead ws i = hd (ws.drop i) := by
  unfold ahead hd
  rw [List.headD_eq_head?_getD, List.head?_drop]
theorem drop_more {ws a r : List Wd} {i : Nat} (h : ws.drop i = a ++ r) : ws.drop (i + a.length) = r := by
  rw [← List.drop_drop, h, List.drop_left]
theorem drop_one {ws r : List Wd} {w : Wd} {i : Nat} (h : ws.drop i = w :: r) : ws.drop (i + 1) = r := drop_more (a := [w]) h
theorem drop_len {ws r : List Wd} {i : Nat} (h : ws.drop i = r) : r.length ≤ ws.length := by rw [← h, List.length_drop]; omega
def Rds (ws : List Wd) {α : Type} (p : Option (α × Nat)) (res : Option α) (rest : List Wd) : Prop := match res with
  | none => p = none
  | some a => ∃ j, p = some (a, j) ∧ ws.drop j = rest
structure Th where
  ah : List Wd
  tk : List Wd
  rs : Option Tm
  nd : Nat
abbrev Rs := List (Wd × Th)
def toks : Rs → List Wd
  | [] => []
  | (s, t) :: l => s :: (t.ah ++ (t.tk ++ toks l))
theorem toks_len : ∀ l : Rs, l.length ≤ (toks l).length
  | [] => Nat.le_refl _
  | (s, t) :: l => by
    have := toks_len l
    simp only [toks, List.length_cons, List.length_append]
    omega
def bangs : Tm → Rs → Option (Tm × Rs)
  | a, [] => some (a, [])
  | a, (s, t) :: l => if s = wBang then (if t.ah = [] then t.rs.bind fun b => bangs (.do_ a b) l else none) else some (a, (s, t) :: l)
def ones (ah : List Wd) (a : Tm) : Tm := ah.foldr (fun w x => .one w x) a
def opd (t : Th) (l : Rs) : Option (Tm × Rs) := t.rs.bind fun a => (bangs a l).map fun r => (ones t.ah r.1, r.2)
def hs : Rs → Wd
  | [] => []
  | (s, _) :: _ => s
mutual
def prow : Nat → Nat → Th → Rs → Option (Tm × Rs)
  | 0, _, _, _ => none
  | f + 1, least, t, l => (opd t l).bind fun r => ploop f least r.1 r.2
def ploop : Nat → Nat → Tm → Rs → Option (Tm × Rs)
  | 0, _, _, _ => none
  | _ + 1, _, a, [] => some (a, [])
  | f + 1, least, a, (s, t) :: l => if least ≤ strength s then (prow f (behind s) t l).bind fun r => if (comparing s && comparing (hs r.2)) = true then none else ploop f least (.two s a r.1) r.2 else some (a, (s, t) :: l)
end
def Tml (r : List Wd) : Prop := strength (hd r) = 0 ∧ hd r ≠ wBang ∧ hd r ≠ wOpen
def Sgn (s : Wd) : Prop := s ∈ [wLt, wEq, wColon, wPlus, wMinus, wTimes, wOver, wBang]
instance (s : Wd) : Decidable (Sgn s) := by unfold Sgn; infer_instance
def AtOk (ws : List Wd) (c : Nat) (t : Th) : Prop := ∀ n level i rest, c ≤ n + level + 1 → level + t.nd ≤ 16 → ws.drop i = t.tk ++ rest → Tml rest → Rds ws (rTW K10.isNum K10.isName ws (bo ws n).1 level i) t.rs rest
def NmOk (t : Th) : Prop := ∃ x, K10.isName x = true ∧ K10.isNum x = false ∧ t.tk = [x] ∧ t.rs = some (.name x)
def Hw (t : Th) : Prop := t.ah.length ≤ 2 ∧ ∀ w ∈ t.ah, oneWord w = true
def Here (ws : List Wd) (c : Nat) (t : Th) (l : Rs) : Prop := Hw t ∧ AtOk ws c t ∧ (l ≠ [] → NmOk t) ∧ ∃ x r, t.tk = x :: r ∧ oneWord x = false
def Fine (ws : List Wd) (c : Nat) : Rs → Prop
  | [] => True
  | (s, t) :: l => Sgn s ∧ Here ws c t l ∧ Fine ws c l
def Fits (level : Nat) : Rs → Prop
  | [] => True
  | (_, t) :: l => level + 3 + t.nd ≤ 16 ∧ Fits (level + 1) l
theorem Fits.mono {l : Rs} : ∀ {a b : Nat}, a ≤ b → Fits b l → Fits a l := by
  induction l with
  | nil => intros; trivial
  | cons x l ih =>
    rintro a b h ⟨h1, h2⟩
    exact ⟨by omega, ih (by omega) h2⟩
theorem Fits.tail {c l : Rs} : ∀ {a : Nat}, Fits a (c ++ l) → Fits a l := by
  induction c with
  | nil => exact id
  | cons x c ih =>
    rintro a ⟨_, h⟩
    exact (ih h).mono (by omega)
theorem Fine.tail {ws : List Wd} {k : Nat} {c l : Rs} (h : Fine ws k (c ++ l)) : Fine ws k l := by
  induction c with
  | nil => exact h
  | cons x c ih => exact ih h.2.2
def Sim (ws : List Wd) (p : Option (Tm × Nat)) (q : Option (Tm × Rs)) (l : Rs) (rest : List Wd) : Prop := match q with
  | none => p = none
  | some (a, l') => ∃ j, p = some (a, j) ∧ ws.drop j = toks l' ++ rest ∧ ∃ c, l = c ++ l'
theorem name_not {x : Wd} (h : K10.isName x = true) : x ≠ wIf ∧ x ≠ wLet ∧ x ≠ wFn ∧ x ≠ wOpen ∧ x ≠ wBra ∧ x ≠ wYes ∧ x ≠ wNo := by
  refine ⟨?_, ?_, ?_, ?_, ?_, ?_, ?_⟩ <;> (rintro rfl; revert h; decide)
theorem one_not {x : Wd} (h : oneWord x = true) : x ≠ wIf ∧ x ≠ wLet ∧ x ≠ wFn ∧ x ≠ wOpen ∧ x ≠ wBra ∧ x ≠ wYes ∧ x ≠ wNo ∧ K10.isName x = false ∧ K10.isNum x = false := by
  have h' : x = wHead ∨ x = wTail ∨ x = wEmpty ∨ x = wNot := by simpa [oneWord, or_assoc] using h
  rcases h' with rfl | rfl | rfl | rfl <;> decide
section
variable {ws : List Wd} {row : Nat → Nat → Nat → Option (Tm × Nat)} {level i : Nat}
theorem tw_one {w : Wd} {r : List Wd} (h : ws.drop i = w :: r) (hw : oneWord w = true) : rTW K10.isNum K10.isName ws row level i = none := by
  obtain ⟨h1, h2, h3, h4, h5, h6, h7, h8, h9⟩ := one_not hw
  have e : ahead ws i = w := by rw [ahead_hd, h]; rfl
  unfold rTW rTight
  rw [e, if_neg h1, if_neg h2, if_neg h3, if_neg h4, if_neg h5, if_neg (by simp [h6, h7]), if_neg (by simp [h9]), if_neg (by simp [h8])]
theorem tw_name {x : Wd} {rest : List Wd} (h : ws.drop i = x :: rest) (hn : K10.isName x = true) (hm : K10.isNum x = false) (hr : hd rest ≠ wOpen) : rTW K10.isNum K10.isName ws row level i = some (.name x, i + 1) := by
  obtain ⟨h1, h2, h3, h4, h5, h6, h7⟩ := name_not hn
  have e : ahead ws i = x := by rw [ahead_hd, h]; rfl
  have e2 : ahead ws (i + 1) = hd rest := by rw [ahead_hd, drop_one h]
  unfold rTW rTight
  rw [e, if_neg h1, if_neg h2, if_neg h3, if_neg h4, if_neg h5, if_neg (by simp [h6, h7]), if_neg (by simp [hm]), if_pos hn]
  unfold rNamed
  rw [e2, if_neg hr]
end
theorem sgn_not {s : Wd} (h : Sgn s) : s ≠ wOpen := by
  rintro rfl
  revert h; decide
theorem here_ok {ws : List Wd} {c n level i : Nat} {t : Th} {l : Rs} {rest : List Wd} (H : Here ws c t l) (F : Fine ws c l) (hc : c ≤ n + level + 1) (hl : level + t.nd ≤ 16) (hi : ws.drop i = t.tk ++ (toks l ++ rest)) (ht : Tml rest) :
    Rds ws (rTW K10.isNum K10.isName ws (bo ws n).1 level i) t.rs (toks l ++ rest) := by
  cases l with
  | nil => exact H.2.1 n level i rest hc hl hi ht
  | cons x l =>
    obtain ⟨s, u⟩ := x
    obtain ⟨y, h1, h2, h3, h4⟩ := H.2.2.1 (by simp)
    rw [h3] at hi
    rw [h4]
    exact ⟨i + 1, tw_name hi h1 h2 (sgn_not F.1), drop_one hi⟩
theorem sim_bangs {ws : List Wd} {c n level : Nat} {rest : List Wd} (hc : c ≤ n + level + 2) (ht : Tml rest) : ∀ (l : Rs) (a : Tm) (m i : Nat), Fine ws c l → l.length ≤ m → ws.drop i = toks l ++ rest → (∀ x ∈ l, level + 1 + x.2.nd ≤ 16) →
    Sim ws (doLoop K10.isNum K10.isName ws (bo ws n).1 level m a i) (bangs a l) l rest
  | [], a, m, i, F, hm, hi, _ => by
    have e : ahead ws i = hd rest := by rw [ahead_hd, hi]; rfl
    refine ⟨i, ?_, hi, [], rfl⟩
    cases m with
    | zero => rfl
    | succ m => unfold doLoop; rw [e, if_neg ht.2.1]
  | (s, t) :: l, a, m, i, F, hm, hi, hn => by
    obtain ⟨m, rfl⟩ : ∃ k, m = k + 1 := ⟨m - 1, by simp only [List.length_cons] at hm; omega⟩
    have e : ahead ws i = s := by rw [ahead_hd, hi]; rfl
    have hi' : ws.drop i = s :: (t.ah ++ (t.tk ++ toks l) ++ rest) := by rw [hi]; simp [toks]
    have hi1 := drop_one hi'
    unfold bangs doLoop
    rw [e]
    by_cases hb : s = wBang
    · rw [if_pos hb, if_pos hb]
      by_cases ha : t.ah = []
      · rw [if_pos ha]
        rw [ha, List.nil_append, List.append_assoc] at hi1
        have hR := here_ok F.2.1 F.2.2 (n := n) (level := level + 1) (by omega) (by have := hn (s, t) (List.mem_cons_self ..); omega) hi1 ht
        cases hr : t.rs with
        | none =>
          rw [hr] at hR
          have hR : rTW K10.isNum K10.isName ws (bo ws n).1 (level + 1) (i + 1) = none := hR
          rw [hR]
          rfl
        | some b =>
          rw [hr] at hR
          obtain ⟨j, e1, e2⟩ := hR
          rw [e1]
          have ih := sim_bangs hc ht l (.do_ a b) m j F.2.2 (by simp only [List.length_cons] at hm; omega) e2 (fun x hx => hn x (List.mem_cons_of_mem _ hx))
          show Sim ws (doLoop K10.isNum K10.isName ws (bo ws n).1 level m (.do_ a b) j) (bangs (.do_ a b) l) _ rest
          cases hq : bangs (.do_ a b) l with
          | none => rw [hq] at ih; exact ih
          | some q =>
            rw [hq] at ih
            obtain ⟨j', e3, e4, d, e5⟩ := ih
            exact ⟨j', e3, e4, (s, t) :: d, by rw [e5]; rfl⟩
      · rw [if_neg ha]
        obtain ⟨w, r, hw⟩ : ∃ w r, t.ah = w :: r := by
          cases h : t.ah with
          | nil => exact absurd h ha
          | cons w r => exact ⟨w, r, rfl⟩
        have ho := F.2.1.1.2 w (by rw [hw]; exact List.mem_cons_self ..)
        rw [hw] at hi1
        have hz : rTW K10.isNum K10.isName ws (bo ws n).1 (level + 1) (i + 1) = none := tw_one (by rw [hi1]; rfl) ho
        rw [hz]
        rfl
    · rw [if_neg hb, if_neg hb]
      exact ⟨i, rfl, hi, [], rfl⟩
theorem Sim.longer {ws : List Wd} {p : Option (Tm × Nat)} {q : Option (Tm × Rs)} {l d : Rs} {rest : List Wd} (h : Sim ws p q l rest) : Sim ws p q (d ++ l) rest := by
  cases q with
  | none => exact h
  | some q =>
    obtain ⟨j, h1, h2, c, h3⟩ := h
    exact ⟨j, h1, h2, d ++ c, by rw [h3, List.append_assoc]⟩
theorem fits_nd {l : Rs} : ∀ {level : Nat}, Fits level l → ∀ x ∈ l, level + 3 + x.2.nd ≤ 16 := by
  induction l with
  | nil => intro _ _ x hx; cases hx
  | cons y l ih =>
    rintro level ⟨h1, h2⟩ x hx
    rcases List.mem_cons.mp hx with rfl | hx
    · exact h1
    · have := ih h2 x hx; omega
theorem sim_opd {ws : List Wd} {c lv : Nat} {t : Th} {l : Rs} {rest : List Wd} (h20 : 20 ≤ c) (H : Here ws c t l) (F : Fine ws c l) (hl : lv + 2 + t.nd ≤ 16) (hf : Fits lv l) (ht : Tml rest) : ∀ (ah : List Wd) (n level i : Nat), (∀ w ∈ ah, oneWord w = true) → level + ah.length ≤ lv + 2 → c ≤ n + level → ws.drop i = (ah ++ (t.tk ++ toks l)) ++ rest →
    Sim ws ((bo ws n).2 level i) (t.rs.bind fun a => (bangs a l).map fun r => (ones ah r.1, r.2)) l rest
  | [], n, level, i, _, hv, hc, hi => by
    obtain ⟨n, rfl⟩ : ∃ k, n = k + 1 := ⟨n - 1, by simp only [List.length_nil] at hv; omega⟩
    simp only [List.length_nil] at hv
    obtain ⟨x, r, hx, ho⟩ := H.2.2.2
    have e : ahead ws i = x := by rw [ahead_hd, hi, hx]; rfl
    show Sim ws (rOperand K10.isNum K10.isName ws (bo ws n).1 (bo ws n).2 level i) _ l rest
    unfold rOperand
    rw [if_neg (by omega), e, if_neg (by rw [ho]; decide)]
    have hi' : ws.drop i = t.tk ++ (toks l ++ rest) := by rw [hi]; simp
    have hR := here_ok H F (n := n) (level := level) (by omega) (by omega) hi' ht
    cases hr : t.rs with
    | none =>
      rw [hr] at hR
      have hR : rTW K10.isNum K10.isName ws (bo ws n).1 level i = none := hR
      rw [hR]
      rfl
    | some a =>
      rw [hr] at hR
      obtain ⟨j, e1, e2⟩ := hR
      rw [e1]
      have hb := sim_bangs (c := c) (n := n) (level := level) (by omega) ht l a (ws.length + 1) j F (by have := toks_len l; have := drop_len e2; simp only [List.length_append] at this; omega) e2 (fun y hy => by have := fits_nd hf y hy; omega)
      show Sim ws (doLoop K10.isNum K10.isName ws (bo ws n).1 level (ws.length + 1) a j) ((bangs a l).map fun r => (ones [] r.1, r.2)) l rest
      cases hq : bangs a l with
      | none => rw [hq] at hb; exact hb
      | some q => rw [hq] at hb; exact hb
  | w :: ah, n, level, i, hw, hv, hc, hi => by
    simp only [List.length_cons] at hv
    obtain ⟨n, rfl⟩ : ∃ k, n = k + 1 := ⟨n - 1, by omega⟩
    have e : ahead ws i = w := by rw [ahead_hd, hi]; rfl
    show Sim ws (rOperand K10.isNum K10.isName ws (bo ws n).1 (bo ws n).2 level i) _ l rest
    unfold rOperand
    rw [if_neg (by omega), e, if_pos (hw w (List.mem_cons_self ..))]
    have ih := sim_opd h20 H F hl hf ht ah n (level + 1) (i + 1) (fun y hy => hw y (List.mem_cons_of_mem _ hy)) (by omega) (by omega) (drop_one (by rw [hi]; rfl))
    cases hr : t.rs with
    | none => rw [hr] at ih; have ih : (bo ws n).2 (level + 1) (i + 1) = none := ih; rw [ih]; rfl
    | some a =>
      rw [hr] at ih
      cases hq : bangs a l with
      | none =>
        simp only [Option.bind_some, hq, Option.map_none] at ih ⊢
        have ih : (bo ws n).2 (level + 1) (i + 1) = none := ih
        show Option.map _ ((bo ws n).2 (level + 1) (i + 1)) = none
        rw [ih]; rfl
      | some q =>
        simp only [Option.bind_some, hq, Option.map_some] at ih ⊢
        obtain ⟨j, e1, e2, e3⟩ := ih
        refine ⟨j, ?_, e2, e3⟩
        show Option.map _ ((bo ws n).2 (level + 1) (i + 1)) = _
        rw [e1]; rfl
theorem cmp_zero {w : Wd} (h : strength w = 0) : comparing w = false := by
  unfold comparing
  rw [Bool.or_eq_false_iff]
  constructor
  · exact decide_eq_false (by rintro rfl; revert h; decide)
  · exact decide_eq_false (by rintro rfl; revert h; decide)
theorem bangs_tail : ∀ (l : Rs) (a : Tm) (r : Tm × Rs), bangs a l = some r → ∃ c, l = c ++ r.2
  | [], a, r, h => by cases h; exact ⟨[], rfl⟩
  | (s, t) :: l, a, r, h => by
    unfold bangs at h
    split at h
    · split at h
      · obtain ⟨b, hb, h⟩ := Option.bind_eq_some_iff.mp h
        obtain ⟨c, e⟩ := bangs_tail l _ r h
        exact ⟨(s, t) :: c, by rw [e]; rfl⟩
      · cases h
    · cases h; exact ⟨[], rfl⟩
theorem sim_row {ws : List Wd} {c : Nat} {rest : List Wd} (h20 : 20 ≤ c) (ht : Tml rest) : ∀ f : Nat,
    (∀ (least n level i : Nat) (t : Th) (l : Rs), 2 * l.length + 2 ≤ f → c ≤ n + level → Here ws c t l → Fine ws c l → level + 2 + t.nd ≤ 16 → Fits level l → ws.drop i = (t.ah ++ (t.tk ++ toks l)) ++ rest → 1 ≤ least → Sim ws ((bo ws n).1 least level i) (prow f least t l) l rest) ∧
    (∀ (least n level m i : Nat) (a : Tm) (l : Rs), 2 * l.length + 1 ≤ f → l.length ≤ m → c ≤ n + level + 1 → Fine ws c l → Fits level l → ws.drop i = toks l ++ rest → 1 ≤ least → Sim ws (rowLoop ws (bo ws n).1 least level m a i) (ploop f least a l) l rest)
  | 0 => ⟨fun _ _ _ _ _ _ h => by omega, fun _ _ _ _ _ _ _ h => by omega⟩
  | f + 1 => by
    obtain ⟨ih1, ih2⟩ := sim_row h20 ht f
    constructor
    · intro least n level i t l hm hc H F hl hf hi hle
      obtain ⟨n, rfl⟩ : ∃ k, n = k + 1 := ⟨n - 1, by omega⟩
      have hO := sim_opd h20 H F hl hf ht t.ah (n + 1) level i H.1.2 (by have := H.1.1; omega) hc hi
      show Sim ws (((bo ws (n + 1)).2 level i).bind fun r => rowLoop ws (bo ws n).1 least level (ws.length + 1) r.1 r.2) ((opd t l).bind fun r => ploop f least r.1 r.2) l rest
      have eo : opd t l = (t.rs.bind fun a => (bangs a l).map fun r => (ones t.ah r.1, r.2)) := rfl
      rw [← eo] at hO
      cases hq : opd t l with
      | none =>
        rw [hq] at hO
        have hO : (bo ws (n + 1)).2 level i = none := hO
        rw [hO]; rfl
      | some q =>
        rw [hq] at hO
        obtain ⟨j, e1, e2, d, e3⟩ := hO
        rw [e1]
        show Sim ws (rowLoop ws (bo ws n).1 least level (ws.length + 1) q.1 j) (ploop f least q.1 q.2) l rest
        have hlen : q.2.length ≤ l.length := by rw [e3, List.length_append]; omega
        have := ih2 least n level (ws.length + 1) j q.1 q.2 (by omega) (by have := toks_len q.2; have := drop_len e2; simp only [List.length_append] at this; omega) (by omega) (by rw [e3] at F; exact F.tail) (by rw [e3] at hf; exact hf.tail) e2 hle
        rw [e3]
        exact this.longer
    · intro least n level m i a l hm hm2 hc F hf hi hle
      cases l with
      | nil =>
        have e : ahead ws i = hd rest := by rw [ahead_hd, hi]; rfl
        refine ⟨i, ?_, hi, [], rfl⟩
        cases m with
        | zero => rfl
        | succ m => unfold rowLoop; rw [e, ht.1, if_neg (by omega)]
      | cons x l =>
        obtain ⟨s, t⟩ := x
        simp only [List.length_cons] at hm hm2
        obtain ⟨m, rfl⟩ : ∃ k, m = k + 1 := ⟨m - 1, by omega⟩
        have e : ahead ws i = s := by rw [ahead_hd, hi]; rfl
        have hi1 : ws.drop (i + 1) = (t.ah ++ (t.tk ++ toks l)) ++ rest := drop_one (w := s) (by rw [hi]; simp [toks])
        unfold rowLoop ploop
        rw [e]
        by_cases hst : least ≤ strength s
        · rw [if_pos hst, if_pos hst]
          have hR := ih1 (behind s) n (level + 1) (i + 1) t l (by omega) (by omega) F.2.1 F.2.2 (by have := hf.1; omega) hf.2 hi1 (behind_pos s)
          cases hq : prow f (behind s) t l with
          | none =>
            rw [hq] at hR
            have hR : (bo ws n).1 (behind s) (level + 1) (i + 1) = none := hR
            rw [hR]; rfl
          | some q =>
            rw [hq] at hR
            obtain ⟨j, e1, e2, d, e3⟩ := hR
            rw [e1]
            have ec : comparing (ahead ws j) = comparing (hs q.2) := by
              rw [ahead_hd, e2]
              cases hq2 : q.2 with
              | nil => show comparing (hd rest) = comparing []; rw [cmp_zero ht.1]; rfl
              | cons y q2 => rfl
            show Sim ws (if (comparing s && comparing (ahead ws j)) = true then none else rowLoop ws (bo ws n).1 least level m (.two s a q.1) j) (if (comparing s && comparing (hs q.2)) = true then none else ploop f least (.two s a q.1) q.2) _ rest
            rw [ec]
            by_cases hcm : (comparing s && comparing (hs q.2)) = true
            · rw [if_pos hcm, if_pos hcm]; rfl
            · rw [if_neg hcm, if_neg hcm]
              have hlen : q.2.length ≤ l.length := by rw [e3, List.length_append]; omega
              have := ih2 least n level m j (.two s a q.1) q.2 (by omega) (by omega) hc (by have := F.2.2; rw [e3] at this; exact this.tail) (by have := hf.2; rw [e3] at this; exact this.tail.mono (by omega)) e2 hle
              rw [e3]
              exact this.longer (d := (s, t) :: d)
        · rw [if_neg hst, if_neg hst]
          exact ⟨i, rfl, hi, [], rfl⟩
end RD
namespace RD
abbrev Ts := List (Wd × Tm)
def grp (ah : List Wd) (a : Tm) : Rs → Option (Tm × Ts)
  | [] => some (ones ah a, [])
  | (s, t) :: l => if s = wBang then (if t.ah = [] then t.rs.bind fun b => grp ah (.do_ a b) l else none) else t.rs.bind fun b => (grp t.ah b l).map fun r => (ones ah a, (s, r.1) :: r.2)
def whole (t : Th) (l : Rs) : Option (Tm × Ts) := t.rs.bind fun a => grp t.ah a l
def wholeL : Rs → Option Ts
  | [] => some []
  | (s, t) :: l => (whole t l).map fun q => (s, q.1) :: q.2
theorem wholeL_cons (s : Wd) (t : Th) (l : Rs) : wholeL ((s, t) :: l) = (whole t l).map fun q => (s, q.1) :: q.2 := rfl
def hs' : Ts → Wd
  | [] => []
  | (s, _) :: _ => s
mutual
def crow : Nat → Nat → Tm → Ts → Option (Tm × Ts)
  | 0, _, _, _ => none
  | f + 1, least, a, l => cloop f least a l
def cloop : Nat → Nat → Tm → Ts → Option (Tm × Ts)
  | 0, _, _, _ => none
  | _ + 1, _, a, [] => some (a, [])
  | f + 1, least, a, (s, b) :: l => if least ≤ strength s then (crow f (behind s) b l).bind fun r => if (comparing s && comparing (hs' r.2)) = true then none else cloop f least (.two s a r.1) r.2 else some (a, (s, b) :: l)
end
theorem cloop_cons (f k : Nat) (a : Tm) (s : Wd) (b : Tm) (l : Ts) : cloop (f + 1) k a ((s, b) :: l) = if k ≤ strength s then (crow f (behind s) b l).bind fun r => if (comparing s && comparing (hs' r.2)) = true then none else cloop f k (.two s a r.1) r.2 else some (a, (s, b) :: l) := by rw [cloop]
theorem crow_succ (f k : Nat) (a : Tm) (l : Ts) : crow (f + 1) k a l = cloop f k a l := by rw [crow]
theorem cloop_nil (f k : Nat) (a : Tm) : cloop (f + 1) k a [] = some (a, []) := by rw [cloop]
theorem grp_bangs : ∀ (l : Rs) (ah : List Wd) (a : Tm), grp ah a l = (bangs a l).bind fun q => (wholeL q.2).map fun r => (ones ah q.1, r)
  | [], ah, a => rfl
  | (s, t) :: l, ah, a => by
    unfold grp bangs
    by_cases hb : s = wBang
    · rw [if_pos hb, if_pos hb]
      by_cases ha : t.ah = []
      · rw [if_pos ha, if_pos ha]
        cases t.rs with
        | none => rfl
        | some b => exact grp_bangs l ah (.do_ a b)
      · rw [if_neg ha, if_neg ha]; rfl
    · rw [if_neg hb, if_neg hb]
      show _ = (wholeL ((s, t) :: l)).map _
      rw [wholeL_cons]
      unfold whole
      cases t.rs with
      | none => rfl
      | some b =>
        show (grp t.ah b l).map _ = ((grp t.ah b l).map _).map _
        rw [Option.map_map]
        rfl
theorem whole_opd (t : Th) (l : Rs) : whole t l = (opd t l).bind fun q => (wholeL q.2).map fun r => (q.1, r) := by
  unfold whole opd
  cases t.rs with
  | none => rfl
  | some a =>
    show grp t.ah a l = ((bangs a l).map _).bind _
    rw [grp_bangs]
    cases bangs a l <;> rfl
theorem wholeL_hs {l : Rs} {r : Ts} (h : wholeL l = some r) : hs l = hs' r := by
  cases l with
  | nil => cases h; rfl
  | cons x l =>
    obtain ⟨s, t⟩ := x
    obtain ⟨q, _, rfl⟩ := Option.map_eq_some_iff.mp h
    rfl
theorem climb : ∀ f : Nat, (∀ (k : Nat) (t : Th) (l : Rs), ((prow f k t l).bind fun q => (wholeL q.2).map fun r => (q.1, r)) = (whole t l).bind fun q => crow f k q.1 q.2) ∧
    (∀ (k : Nat) (a : Tm) (l : Rs), ((ploop f k a l).bind fun q => (wholeL q.2).map fun r => (q.1, r)) = (wholeL l).bind fun r => cloop f k a r)
  | 0 => ⟨fun k t l => by simp [prow, crow], fun k a l => by simp [ploop, cloop]⟩
  | f + 1 => by
    obtain ⟨ih1, ih2⟩ := climb f
    constructor
    · intro k t l
      rw [whole_opd]
      simp only [crow_succ]
      unfold prow
      cases opd t l with
      | none => rfl
      | some q =>
        show ((ploop f k q.1 q.2).bind _) = ((wholeL q.2).map _).bind _
        rw [ih2]
        cases wholeL q.2 <;> rfl
    · intro k a l
      cases l with
      | nil => rfl
      | cons x l =>
        obtain ⟨s, t⟩ := x
        unfold ploop
        by_cases hk : k ≤ strength s
        · rw [if_pos hk]
          have e1 : ((wholeL ((s, t) :: l)).bind fun r => cloop (f + 1) k a r) = ((whole t l).bind fun q => crow f (behind s) q.1 q.2).bind fun r => if (comparing s && comparing (hs' r.2)) = true then none else cloop f k (.two s a r.1) r.2 := by
            rw [wholeL_cons]
            cases whole t l with
            | none => rfl
            | some q =>
              show cloop (f + 1) k a ((s, q.1) :: q.2) = _
              rw [cloop_cons, if_pos hk]
              rfl
          rw [e1, ← ih1]
          cases prow f (behind s) t l with
          | none => rfl
          | some q =>
            show (if (comparing s && comparing (hs q.2)) = true then none else ploop f k (.two s a q.1) q.2).bind _ = ((wholeL q.2).map _).bind _
            cases hw : wholeL q.2 with
            | none =>
              split
              · rfl
              · rw [ih2, hw]; rfl
            | some r =>
              rw [wholeL_hs hw]
              show _ = if (comparing s && comparing (hs' r)) = true then none else cloop f k (.two s a q.1) r
              split
              · rfl
              · rw [ih2, hw]; rfl
        · rw [if_neg hk]
          show (wholeL ((s, t) :: l)).map _ = _
          rw [wholeL_cons]
          cases whole t l with
          | none => rfl
          | some q =>
            show some _ = cloop (f + 1) k a ((s, q.1) :: q.2)
            rw [cloop_cons, if_neg hk]
theorem bangs_end : ∀ (l : Rs) (a : Tm) (r : Tm × Rs), bangs a l = some r → hs r.2 ≠ wBang
  | [], a, r, h => by cases h; exact (show ([] : Wd) ≠ wBang by decide)
  | (s, t) :: l, a, r, h => by
    unfold bangs at h
    split at h
    · split at h
      · obtain ⟨b, hb, h⟩ := Option.bind_eq_some_iff.mp h
        exact bangs_end l _ r h
      · cases h
    · rename_i hb
      cases h; exact hb
theorem opd_end {t : Th} {l : Rs} {r : Tm × Rs} (h : opd t l = some r) : hs r.2 ≠ wBang ∧ ∃ c, l = c ++ r.2 := by
  unfold opd at h
  obtain ⟨a, ha, h⟩ := Option.bind_eq_some_iff.mp h
  obtain ⟨q, hq, rfl⟩ := Option.map_eq_some_iff.mp h
  exact ⟨bangs_end l a q hq, bangs_tail l a q hq⟩
theorem p_end : ∀ f : Nat, (∀ (k : Nat) (t : Th) (l : Rs) (r : Tm × Rs), prow f k t l = some r → hs r.2 ≠ wBang ∧ ∃ c, l = c ++ r.2) ∧
    (∀ (k : Nat) (a : Tm) (l : Rs) (r : Tm × Rs), hs l ≠ wBang → ploop f k a l = some r → hs r.2 ≠ wBang ∧ (r.2 = [] ∨ strength (hs r.2) < k) ∧ ∃ c, l = c ++ r.2)
  | 0 => ⟨fun k t l r h => by simp [prow] at h, fun k a l r _ h => by simp [ploop] at h⟩
  | f + 1 => by
    obtain ⟨ih1, ih2⟩ := p_end f
    constructor
    · intro k t l r h
      unfold prow at h
      obtain ⟨q, hq, h⟩ := Option.bind_eq_some_iff.mp h
      obtain ⟨h1, c, h2⟩ := opd_end hq
      obtain ⟨h3, _, d, h5⟩ := ih2 k q.1 q.2 r h1 h
      exact ⟨h3, c ++ d, by rw [h2, h5, List.append_assoc]⟩
    · intro k a l r hb h
      cases l with
      | nil => rw [ploop] at h; cases h; exact ⟨(show ([] : Wd) ≠ wBang by decide), .inl rfl, [], rfl⟩
      | cons x l =>
        obtain ⟨s, t⟩ := x
        unfold ploop at h
        split at h
        · obtain ⟨q, hq, h⟩ := Option.bind_eq_some_iff.mp h
          split at h
          · cases h
          · obtain ⟨h1, c, h2⟩ := ih1 _ t l q hq
            obtain ⟨h3, h4, d, h5⟩ := ih2 k _ q.2 r h1 h
            exact ⟨h3, h4, (s, t) :: (c ++ d), by rw [h2, h5]; simp⟩
        · rename_i hk
          cases h
          exact ⟨hb, .inr (by show strength s < k; omega), [], rfl⟩
theorem sgn_str {s : Wd} (h : Sgn s) (hb : s ≠ wBang) : 1 ≤ strength s := by
  have h' : s = wLt ∨ s = wEq ∨ s = wColon ∨ s = wPlus ∨ s = wMinus ∨ s = wTimes ∨ s = wOver ∨ s = wBang := by simpa [Sgn] using h
  rcases h' with rfl | rfl | rfl | rfl | rfl | rfl | rfl | rfl <;> first | decide | exact absurd rfl hb
theorem prow_all {f : Nat} {t : Th} {l : Rs} {r : Tm × Rs} (hS : ∀ x ∈ l, Sgn x.1) (h : prow f 1 t l = some r) : r.2 = [] := by
  cases f with
  | zero => simp [prow] at h
  | succ f =>
    unfold prow at h
    obtain ⟨q, hq, h⟩ := Option.bind_eq_some_iff.mp h
    obtain ⟨h1, c, h2⟩ := opd_end hq
    obtain ⟨h3, h4, d, h5⟩ := (p_end f).2 1 q.1 q.2 r h1 h
    rcases h4 with h4 | h4
    · exact h4
    · cases hr : r.2 with
      | nil => rfl
      | cons x l' =>
        rw [hr] at h4 h3 h5
        have := sgn_str (hS x (by rw [h2, h5]; simp)) h3
        have h4 : strength x.1 < 1 := h4
        omega
theorem prow_crow {f : Nat} {t : Th} {l : Rs} (hS : ∀ x ∈ l, Sgn x.1) : (prow f 1 t l).map (·.1) = ((whole t l).bind fun q => crow f 1 q.1 q.2).map (·.1) := by
  rw [← (climb f).1 1 t l]
  cases h : prow f 1 t l with
  | none => rfl
  | some r =>
    have := prow_all hS h
    show some r.1 = ((wholeL r.2).map _).map _
    rw [this]
    rfl
end RD
namespace RD
def fl (k : Nat) : Tm → Ts → Tm × Ts
  | a, [] => (a, [])
  | a, (s, b) :: l => if strength s = k then fl k (.two s a b) l else (a, (s, (fl k b l).1) :: (fl k b l).2)
def fr : Tm → Ts → Tm × Ts
  | a, [] => (a, [])
  | a, (s, b) :: l => if s = wColon then (.two s a (fr b l).1, (fr b l).2) else (a, (s, (fr b l).1) :: (fr b l).2)
def lay3 (a : Tm) (r : Ts) : Tm × Ts := fl 3 (fl 4 a r).1 (fl 4 a r).2
def lay2 (a : Tm) (r : Ts) : Tm × Ts := fr (lay3 a r).1 (lay3 a r).2
def fin (q : Tm × Ts) : Option Tm := match q.2 with
  | [] => some q.1
  | [(s, b)] => some (.two s q.1 b)
  | _ => none
def mp (g : Tm → Ts → Tm × Ts) : Ts → Ts
  | [] => []
  | (s, b) :: l => (s, (g b l).1) :: (g b l).2
theorem fl_pos {k : Nat} {a b : Tm} {s : Wd} {l : Ts} (h : strength s = k) : fl k a ((s, b) :: l) = fl k (.two s a b) l := by rw [fl, if_pos h]
theorem fl_neg {k : Nat} {a b : Tm} {s : Wd} {l : Ts} (h : strength s ≠ k) : fl k a ((s, b) :: l) = (a, mp (fl k) ((s, b) :: l)) := by rw [fl, if_neg h]; rfl
theorem fr_pos {a b : Tm} {l : Ts} : fr a ((wColon, b) :: l) = (.two wColon a (fr b l).1, (fr b l).2) := by rw [fr, if_pos rfl]
theorem fr_neg {a b : Tm} {s : Wd} {l : Ts} (h : s ≠ wColon) : fr a ((s, b) :: l) = (a, mp fr ((s, b) :: l)) := by rw [fr, if_neg h]; rfl
theorem lay3_4 {a b : Tm} {s : Wd} {l : Ts} (h : strength s = 4) : lay3 a ((s, b) :: l) = lay3 (.two s a b) l := by unfold lay3; rw [fl_pos h]
theorem fl4_stop {X : Tm} {r : Ts} (h : r = [] ∨ strength (hs' r) < 4) : fl 4 X r = (X, mp (fl 4) r) := by
  cases r with
  | nil => rfl
  | cons x r =>
    obtain ⟨s, b⟩ := x
    have h : strength s < 4 := by rcases h with h | h; cases h; exact h
    exact fl_neg (by omega)
theorem lay3_3 {a b b4 : Tm} {s : Wd} {l rem : Ts} (h : strength s = 3) (h1 : (fl 4 b l).1 = b4) (h2 : mp (fl 4) rem = (fl 4 b l).2) (h3 : rem = [] ∨ strength (hs' rem) < 4) : lay3 (.two s a b4) rem = lay3 a ((s, b) :: l) := by
  unfold lay3
  rw [fl4_stop h3, fl_neg (k := 4) (by omega), h2]
  show fl 3 (.two s a b4) (fl 4 b l).2 = fl 3 a ((s, (fl 4 b l).1) :: (fl 4 b l).2)
  rw [fl_pos h, h1]
theorem lay3_low {a b : Tm} {s : Wd} {l : Ts} (h : strength s < 3) : lay3 a ((s, b) :: l) = (a, mp lay3 ((s, b) :: l)) := by
  unfold lay3
  rw [fl_neg (k := 4) (by omega)]
  show fl 3 a ((s, (fl 4 b l).1) :: (fl 4 b l).2) = _
  rw [fl_neg (by omega)]
  rfl
theorem str_colon {s : Wd} : strength s = 2 → s = wColon := by
  intro h
  unfold strength at h
  split at h
  · omega
  · split at h
    · omega
    · split at h
      · assumption
      · split at h
        · omega
        · split at h
          · omega
          · split at h
            · omega
            · split at h <;> omega
theorem str_le (s : Wd) : strength s ≤ 4 := by
  unfold strength
  repeat' split
  all_goals omega
theorem cmp_str (s : Wd) : comparing s = decide (strength s = 1) := by
  by_cases h1 : s = wLt
  · subst h1; rfl
  by_cases h2 : s = wEq
  · subst h2; rfl
  unfold comparing
  rw [decide_eq_false h1, decide_eq_false h2]
  symm
  apply decide_eq_false
  unfold strength
  rw [if_neg h1, if_neg h2]
  repeat' split
  all_goals omega
theorem behind_of {s : Wd} {k : Nat} (h : strength s = k) : behind s = if k = 2 then 2 else k + 1 := by
  unfold behind
  by_cases hc : s = wColon
  · subst hc
    have : k = 2 := by rw [← h]; rfl
    subst this
    rfl
  · rw [if_neg hc, if_neg (fun e => hc (str_colon (by omega))), h]
theorem lay2_colon {a b : Tm} {l : Ts} : lay2 a ((wColon, b) :: l) = (.two wColon a (lay2 b l).1, (lay2 b l).2) := by
  unfold lay2
  rw [lay3_low (by decide)]
  show fr a ((wColon, (lay3 b l).1) :: (lay3 b l).2) = _
  rw [fr_pos]
theorem lay2_low {a b : Tm} {s : Wd} {l : Ts} (h : strength s < 2) : lay2 a ((s, b) :: l) = (a, mp lay2 ((s, b) :: l)) := by
  unfold lay2
  rw [lay3_low (by omega)]
  show fr a ((s, (lay3 b l).1) :: (lay3 b l).2) = _
  rw [fr_neg (by rintro rfl; revert h; decide)]
  rfl
theorem lay2_stop {X : Tm} {r : Ts} (h : r = [] ∨ strength (hs' r) < 2) : lay2 X r = (X, mp lay2 r) := by
  cases r with
  | nil => rfl
  | cons x r =>
    obtain ⟨s, b⟩ := x
    have h : strength s < 2 := by rcases h with h | h; cases h; exact h
    exact lay2_low h
theorem c5 {f : Nat} {a : Tm} : ∀ {l : Ts}, 1 ≤ f → cloop f 5 a l = some (a, l)
  | [], h => by obtain ⟨f, rfl⟩ : ∃ k, f = k + 1 := ⟨f - 1, by omega⟩; exact cloop_nil ..
  | (s, b) :: l, h => by
    obtain ⟨f, rfl⟩ : ∃ k, f = k + 1 := ⟨f - 1, by omega⟩
    rw [cloop_cons, if_neg (by have := str_le s; omega)]
theorem row_of {f k : Nat} {b : Tm} {l : Ts} (h : 1 ≤ f) : crow f k b l = cloop (f - 1) k b l := by
  obtain ⟨f, rfl⟩ : ∃ k, f = k + 1 := ⟨f - 1, by omega⟩
  exact crow_succ ..
theorem step {f k : Nat} {a b r : Tm} {s : Wd} {l l' : Ts} (hk : k ≤ strength s) (hc : strength s ≠ 1) (hr : crow f (behind s) b l = some (r, l')) : cloop (f + 1) k a ((s, b) :: l) = cloop f k (.two s a r) l' := by
  rw [cloop_cons, if_pos hk, hr]
  show (if (comparing s && comparing (hs' l')) = true then none else cloop f k (.two s a r) l') = _
  rw [cmp_str, decide_eq_false hc, Bool.false_and, if_neg (by decide)]
theorem c4 : ∀ (n : Nat) (l : Ts) (a : Tm) (f : Nat), l.length ≤ n → 2 * l.length + 1 ≤ f → ∃ rem, cloop f 4 a l = some ((fl 4 a l).1, rem) ∧ mp (fl 4) rem = (fl 4 a l).2 ∧ (rem = [] ∨ strength (hs' rem) < 4) ∧ rem.length ≤ l.length ∧ ∀ x ∈ rem, x ∈ l
  | _, [], a, f, _, hf => by
    obtain ⟨f, rfl⟩ : ∃ k, f = k + 1 := ⟨f - 1, by omega⟩
    exact ⟨[], cloop_nil .., rfl, .inl rfl, Nat.le_refl _, fun _ h => h⟩
  | 0, (s, b) :: l, a, f, h, _ => by simp at h
  | n + 1, (s, b) :: l, a, f, h, hf => by
    simp only [List.length_cons] at h hf
    obtain ⟨f, rfl⟩ : ∃ k, f = k + 1 := ⟨f - 1, by omega⟩
    by_cases hs : strength s = 4
    · have hr : crow f (behind s) b l = some (b, l) := by rw [behind_of hs, row_of (by omega)]; exact c5 (by omega)
      rw [step (by omega) (by omega) hr, fl_pos hs]
      obtain ⟨rem, h1, h2, h3, h4, h5⟩ := c4 n l (.two s a b) f (by omega) (by omega)
      exact ⟨rem, h1, h2, h3, by simp only [List.length_cons]; omega, fun x hx => List.mem_cons_of_mem _ (h5 x hx)⟩
    · have := str_le s
      rw [cloop_cons, if_neg (by omega), fl_neg hs]
      exact ⟨_, rfl, rfl, .inr (by show strength s < 4; omega), Nat.le_refl _, fun _ h => h⟩
theorem c34 {k n f : Nat} {a b : Tm} {s : Wd} {l : Ts} (hk : k ≤ 3) (hs : 3 ≤ strength s) (hl : l.length ≤ n) (hf : 2 * l.length + 3 ≤ f + 1) : ∃ X rem, cloop (f + 1) k a ((s, b) :: l) = cloop f k X rem ∧ lay3 X rem = lay3 a ((s, b) :: l) ∧ rem.length ≤ l.length ∧ ∀ x ∈ rem, x ∈ l := by
  by_cases h4 : strength s = 4
  · have hr : crow f (behind s) b l = some (b, l) := by rw [behind_of h4, row_of (by omega)]; exact c5 (by omega)
    exact ⟨_, _, step (by omega) (by omega) hr, (lay3_4 h4).symm, Nat.le_refl _, fun _ h => h⟩
  · have h3 : strength s = 3 := by have := str_le s; omega
    obtain ⟨rem, e1, e2, e3, e4, e5⟩ := c4 n l b (f - 1) hl (by omega)
    have hr : crow f (behind s) b l = some ((fl 4 b l).1, rem) := by rw [behind_of h3, row_of (by omega)]; exact e1
    exact ⟨_, _, step (by omega) (by omega) hr, lay3_3 h3 rfl e2 e3, e4, e5⟩
theorem c3 : ∀ (n : Nat) (l : Ts) (a : Tm) (f : Nat), l.length ≤ n → 2 * l.length + 1 ≤ f → ∃ rem, cloop f 3 a l = some ((lay3 a l).1, rem) ∧ mp lay3 rem = (lay3 a l).2 ∧ (rem = [] ∨ strength (hs' rem) < 3) ∧ rem.length ≤ l.length ∧ ∀ x ∈ rem, x ∈ l
  | _, [], a, f, _, hf => by
    obtain ⟨f, rfl⟩ : ∃ k, f = k + 1 := ⟨f - 1, by omega⟩
    exact ⟨[], cloop_nil .., rfl, .inl rfl, Nat.le_refl _, fun _ h => h⟩
  | 0, (s, b) :: l, a, f, h, _ => by simp at h
  | n + 1, (s, b) :: l, a, f, h, hf => by
    simp only [List.length_cons] at h hf
    obtain ⟨f, rfl⟩ : ∃ k, f = k + 1 := ⟨f - 1, by omega⟩
    by_cases hs : 3 ≤ strength s
    · obtain ⟨X, rem, e1, e2, e3, e4⟩ := c34 (k := 3) (a := a) (b := b) (n := n) (Nat.le_refl _) hs (by omega) (show 2 * l.length + 3 ≤ f + 1 by omega)
      rw [e1, ← e2]
      obtain ⟨rem', h1, h2, h3, h4, h5⟩ := c3 n rem X f (by omega) (by omega)
      exact ⟨rem', h1, h2, h3, by simp only [List.length_cons]; omega, fun x hx => List.mem_cons_of_mem _ (e4 x (h5 x hx))⟩
    · rw [cloop_cons, if_neg hs, lay3_low (by omega)]
      exact ⟨_, rfl, rfl, .inr (by show strength s < 3; omega), Nat.le_refl _, fun _ h => h⟩
theorem c2 : ∀ (n : Nat) (l : Ts) (a : Tm) (f : Nat), l.length ≤ n → 2 * l.length + 1 ≤ f → ∃ rem, cloop f 2 a l = some ((lay2 a l).1, rem) ∧ mp lay2 rem = (lay2 a l).2 ∧ (rem = [] ∨ strength (hs' rem) < 2) ∧ rem.length ≤ l.length ∧ ∀ x ∈ rem, x ∈ l
  | _, [], a, f, _, hf => by
    obtain ⟨f, rfl⟩ : ∃ k, f = k + 1 := ⟨f - 1, by omega⟩
    exact ⟨[], cloop_nil .., rfl, .inl rfl, Nat.le_refl _, fun _ h => h⟩
  | 0, (s, b) :: l, a, f, h, _ => by simp at h
  | n + 1, (s, b) :: l, a, f, h, hf => by
    simp only [List.length_cons] at h hf
    obtain ⟨f, rfl⟩ : ∃ k, f = k + 1 := ⟨f - 1, by omega⟩
    by_cases hs : 3 ≤ strength s
    · obtain ⟨X, rem, e1, e2, e3, e4⟩ := c34 (k := 2) (a := a) (b := b) (n := n) (by omega) hs (by omega) (show 2 * l.length + 3 ≤ f + 1 by omega)
      have e2' : lay2 X rem = lay2 a ((s, b) :: l) := by unfold lay2; rw [e2]
      rw [e1, ← e2']
      obtain ⟨rem', h1, h2, h3, h4, h5⟩ := c2 n rem X f (by omega) (by omega)
      exact ⟨rem', h1, h2, h3, by simp only [List.length_cons]; omega, fun x hx => List.mem_cons_of_mem _ (e4 x (h5 x hx))⟩
    · by_cases h2 : strength s = 2
      · cases str_colon h2
        obtain ⟨rem, e1, e2, e3, e4, e5⟩ := c2 n l b (f - 1) (by omega) (by omega)
        have hr : crow f (behind wColon) b l = some ((lay2 b l).1, rem) := by rw [behind_of h2, row_of (by omega)]; exact e1
        rw [step (by decide) (by decide) hr, lay2_colon]
        obtain ⟨g, rfl⟩ : ∃ k, f = k + 1 := ⟨f - 1, by omega⟩
        refine ⟨rem, ?_, e2, e3, by simp only [List.length_cons]; omega, fun x hx => List.mem_cons_of_mem _ (e5 x hx)⟩
        cases rem with
        | nil => exact cloop_nil ..
        | cons x rem =>
          obtain ⟨s', b'⟩ := x
          have e3 : strength s' < 2 := by rcases e3 with h | h; cases h; exact h
          rw [cloop_cons, if_neg (by omega)]
      · rw [cloop_cons, if_neg (by omega), lay2_low (by omega)]
        exact ⟨_, rfl, rfl, .inr (by show strength s < 2; omega), Nat.le_refl _, fun _ h => h⟩
theorem c1 : ∀ (n : Nat) (l : Ts) (a : Tm) (f : Nat), l.length ≤ n → 2 * l.length + 1 ≤ f → (∀ x ∈ l, 1 ≤ strength x.1) → (cloop f 1 a l).map (·.1) = fin (lay2 a l)
  | _, [], a, f, _, hf, _ => by
    obtain ⟨f, rfl⟩ : ∃ k, f = k + 1 := ⟨f - 1, by omega⟩
    rw [cloop_nil]; rfl
  | 0, (s, b) :: l, a, f, h, _, _ => by simp at h
  | n + 1, (s, b) :: l, a, f, h, hf, hp => by
    simp only [List.length_cons] at h hf
    obtain ⟨f, rfl⟩ : ∃ k, f = k + 1 := ⟨f - 1, by omega⟩
    have hs1 : 1 ≤ strength s := hp (s, b) (List.mem_cons_self ..)
    by_cases hs : 3 ≤ strength s
    · obtain ⟨X, rem, e1, e2, e3, e4⟩ := c34 (k := 1) (a := a) (b := b) (n := n) (by omega) hs (by omega) (show 2 * l.length + 3 ≤ f + 1 by omega)
      have e2' : lay2 X rem = lay2 a ((s, b) :: l) := by unfold lay2; rw [e2]
      rw [e1, ← e2']
      exact c1 n rem X f (by omega) (by omega) (fun x hx => hp x (List.mem_cons_of_mem _ (e4 x hx)))
    · obtain ⟨rem, e1, e2, e3, e4, e5⟩ := c2 n l b (f - 1) (by omega) (by omega)
      by_cases h2 : strength s = 2
      · cases str_colon h2
        have hr : crow f (behind wColon) b l = some ((lay2 b l).1, rem) := by rw [behind_of h2, row_of (by omega)]; exact e1
        have e2' : lay2 (.two wColon a (lay2 b l).1) rem = lay2 a ((wColon, b) :: l) := by rw [lay2_stop e3, lay2_colon, e2]
        rw [step (by decide) (by decide) hr, ← e2']
        exact c1 n rem _ f (by omega) (by omega) (fun x hx => hp x (List.mem_cons_of_mem _ (e5 x hx)))
      · have h1 : strength s = 1 := by omega
        have hr : crow f (behind s) b l = some ((lay2 b l).1, rem) := by rw [behind_of h1, row_of (by omega)]; exact e1
        rw [cloop_cons, if_pos hs1, hr, lay2_low (by omega)]
        show Option.map _ (if (comparing s && comparing (hs' rem)) = true then none else cloop f 1 (.two s a (lay2 b l).1) rem) = fin (a, (s, (lay2 b l).1) :: (lay2 b l).2)
        rw [← e2]
        cases rem with
        | nil =>
          obtain ⟨g, rfl⟩ : ∃ k, f = k + 1 := ⟨f - 1, by omega⟩
          rw [if_neg (by show ¬ (comparing s && comparing []) = true; rw [show comparing [] = false from rfl, Bool.and_false]; decide), cloop_nil]
          rfl
        | cons x rem =>
          obtain ⟨s', b'⟩ := x
          have e3' : strength s' < 2 := by rcases e3 with h | h; cases h; exact h
          have h1' : 1 ≤ strength s' := hp (s', b') (List.mem_cons_of_mem _ (e5 _ (List.mem_cons_self ..)))
          rw [if_pos (by show (comparing s && comparing s') = true; rw [cmp_str, cmp_str, decide_eq_true h1, decide_eq_true (by omega)]; rfl)]
          rfl
theorem grp_str : ∀ (l : Rs) (ah : List Wd) (a : Tm) (q : Tm × Ts), (∀ x ∈ l, Sgn x.1) → grp ah a l = some q → ∀ x ∈ q.2, 1 ≤ strength x.1
  | [], ah, a, q, _, h => by cases h; intro x hx; cases hx
  | (s, t) :: l, ah, a, q, hS, h => by
    unfold grp at h
    split at h
    · split at h
      · obtain ⟨b, _, h⟩ := Option.bind_eq_some_iff.mp h
        exact grp_str l ah _ q (fun x hx => hS x (List.mem_cons_of_mem _ hx)) h
      · cases h
    · rename_i hb
      obtain ⟨b, _, h⟩ := Option.bind_eq_some_iff.mp h
      obtain ⟨r, hr, rfl⟩ := Option.map_eq_some_iff.mp h
      intro x hx
      rcases List.mem_cons.mp hx with rfl | hx
      · exact sgn_str (hS (s, t) (List.mem_cons_self ..)) hb
      · exact grp_str l _ _ r (fun x hx => hS x (List.mem_cons_of_mem _ hx)) hr x hx
theorem grp_len : ∀ (l : Rs) (ah : List Wd) (a : Tm) (q : Tm × Ts), grp ah a l = some q → q.2.length ≤ l.length
  | [], ah, a, q, h => by cases h; exact Nat.le_refl _
  | (s, t) :: l, ah, a, q, h => by
    unfold grp at h
    split at h
    · split at h
      · obtain ⟨b, _, h⟩ := Option.bind_eq_some_iff.mp h
        have := grp_len l ah _ q h
        simp only [List.length_cons]; omega
      · cases h
    · obtain ⟨b, _, h⟩ := Option.bind_eq_some_iff.mp h
      obtain ⟨r, hr, rfl⟩ := Option.map_eq_some_iff.mp h
      have := grp_len l _ _ r hr
      simp only [List.length_cons]; omega
def tree (t : Th) (l : Rs) : Option Tm := (whole t l).bind fun q => fin (lay2 q.1 q.2)
theorem prow_tree {f : Nat} {t : Th} {l : Rs} (hS : ∀ x ∈ l, Sgn x.1) (hf : 2 * l.length + 2 ≤ f) : (prow f 1 t l).map (·.1) = tree t l := by
  rw [prow_crow hS]
  unfold tree
  cases h : whole t l with
  | none => rfl
  | some q =>
    obtain ⟨a, _, h⟩ := Option.bind_eq_some_iff.mp h
    have h1 := grp_str l _ _ q hS h
    have h2 := grp_len l _ _ q h
    show (crow f 1 q.1 q.2).map _ = fin (lay2 q.1 q.2)
    rw [row_of (by omega)]
    exact c1 _ q.2 q.1 (f - 1) (Nat.le_refl _) (by omega) h1
theorem row_tree {ws : List Wd} {c n level i : Nat} {t : Th} {l : Rs} {rest : List Wd} (h20 : 20 ≤ c) (ht : Tml rest) (hc : c ≤ n + level) (H : Here ws c t l) (F : Fine ws c l) (hS : ∀ x ∈ l, Sgn x.1) (hl : level + 2 + t.nd ≤ 16) (hf : Fits level l)
    (hi : ws.drop i = (t.ah ++ (t.tk ++ toks l)) ++ rest) : Rds ws ((bo ws n).1 1 level i) (tree t l) rest := by
  have h1 := (sim_row h20 ht (2 * l.length + 2)).1 1 n level i t l (Nat.le_refl _) hc H F hl hf hi (Nat.le_refl _)
  have h2 := prow_tree (f := 2 * l.length + 2) (t := t) hS (Nat.le_refl _)
  cases hp : prow (2 * l.length + 2) 1 t l with
  | none =>
    rw [hp] at h1 h2
    rw [← h2]
    exact h1
  | some q =>
    rw [hp] at h1 h2
    have he := prow_all hS hp
    obtain ⟨j, e1, e2, _⟩ := h1
    rw [he] at e2
    rw [← h2]
    exact ⟨j, e1, e2⟩
end RD
namespace RD
def Bd (r : List Nat) : Prop := r = [] ∨ ∃ c r', r = c :: r' ∧ K10.long c = false ∧ c ≠ 62
def Cuts (T : List Nat) (ws : List Wd) : Prop := ∀ r rs, Bd r → K10.words r = some rs → K10.words (T ++ r) = some (ws ++ rs)
def CutsF (T : List Nat) (ws : List Wd) : Prop := ∀ r rs, K10.words r = some rs → K10.words (T ++ r) = some (ws ++ rs)
theorem words_gap {c : Nat} {r : List Nat} (h : K10.gap c = true) : K10.words (c :: r) = K10.words r := by
  show K10.cut (r.length + 1) (c :: r) = K10.cut r.length r
  rw [K10.cut, if_pos h]
theorem words_word {c : Nat} {r : List Nat} {w : Wd} (h : K10.gap c = false) (hw : K10.wordAt (c :: r) = some w) : K10.words (c :: r) = (K10.words ((c :: r).drop w.length)).map (w :: ·) := by
  show K10.cut (r.length + 1) (c :: r) = _
  rw [K10.cut, if_neg (by rw [h]; decide), hw]
  have hp := K10.wordAt_pos hw
  show (K10.cut r.length ((c :: r).drop w.length)).map _ = _
  unfold K10.words
  rw [K10.cut_more r.length _ _ (by rw [List.length_drop, List.length_cons]; omega) (Nat.le_refl _)]
theorem CutsF.gap {c : Nat} (h : K10.gap c = true) : CutsF [c] [] := fun r rs hr => by
  show K10.words (c :: r) = _
  rw [words_gap h, hr]; rfl
theorem CutsF.app {A B : List Nat} {a b : List Wd} (h1 : CutsF A a) (h2 : CutsF B b) : CutsF (A ++ B) (a ++ b) := fun r rs hr => by
  rw [List.append_assoc, List.append_assoc]
  exact h1 _ _ (h2 _ _ hr)
theorem CutsF.cuts {A B : List Nat} {a b : List Wd} (h1 : CutsF A a) (h2 : Cuts B b) : Cuts (A ++ B) (a ++ b) := fun r rs hb hr => by
  rw [List.append_assoc, List.append_assoc]
  exact h1 _ _ (h2 _ _ hb hr)
theorem Cuts.free {A B : List Nat} {a b : List Wd} (h1 : Cuts A a) (h2 : CutsF B b) (hB : ∃ c r, B = c :: r ∧ K10.long c = false ∧ c ≠ 62) : CutsF (A ++ B) (a ++ b) := fun r rs hr => by
  rw [List.append_assoc, List.append_assoc]
  refine h1 _ _ (.inr ?_) (h2 _ _ hr)
  obtain ⟨c, r', e, e1, e2⟩ := hB
  exact ⟨c, r' ++ r, by rw [e]; rfl, e1, e2⟩
theorem Cuts.app {A B : List Nat} {a b : List Wd} (h1 : Cuts A a) (h2 : Cuts B b) (hB : ∃ c r, B = c :: r ∧ K10.long c = false ∧ c ≠ 62) : Cuts (A ++ B) (a ++ b) := fun r rs hd hr => by
  rw [List.append_assoc, List.append_assoc]
  refine h1 _ _ (.inr ?_) (h2 _ _ hd hr)
  obtain ⟨c, r', e, e1, e2⟩ := hB
  exact ⟨c, r' ++ r, by rw [e]; rfl, e1, e2⟩
theorem take_bd {x r : List Nat} (hx : x.all K10.long = true) (hr : Bd r) : (x ++ r).takeWhile K10.long = x := by
  induction x with
  | nil =>
    rcases hr with rfl | ⟨c, r', rfl, h, _⟩
    · rfl
    · show (c :: r').takeWhile K10.long = []
      rw [List.takeWhile, h]
  | cons c x ih =>
    rw [List.all_cons, Bool.and_eq_true] at hx
    show ((c :: (x ++ r)).takeWhile K10.long) = _
    rw [List.takeWhile_cons_of_pos hx.1, ih hx.2]
theorem Cuts.word {c : Nat} {x : List Nat} (hx : (c :: x).all K10.long = true) (hg : K10.good (c :: x) = true) (hc : K10.gap c = false) : Cuts (c :: x) [c :: x] := fun r rs hb hr => by
  have ht := take_bd hx hb
  have hl : K10.long c = true := by rw [List.all_cons, Bool.and_eq_true] at hx; exact hx.1
  have hw : K10.wordAt ((c :: x) ++ r) = some (c :: x) := by
    show K10.wordAt (c :: (x ++ r)) = _
    rw [K10.wordAt_cons, if_pos hl]
    have ht' : (c :: (x ++ r)).takeWhile K10.long = c :: x := ht
    rw [ht', if_pos hg]
  show K10.words (c :: (x ++ r)) = _
  have hw' : K10.wordAt (c :: (x ++ r)) = some (c :: x) := hw
  rw [words_word hc hw']
  have : (c :: (x ++ r)).drop (c :: x).length = r := List.drop_left (l₁ := c :: x) (l₂ := r)
  rw [this, hr]
  rfl
theorem Cuts.mark {c : Nat} (h1 : K10.long c = false) (h2 : K10.mark c = true) (h3 : K10.gap c = false) : Cuts [c] [[c]] := fun r rs hb hr => by
  have ht : (c :: r).take 2 ≠ [61, 62] := by
    rcases hb with rfl | ⟨d, r', rfl, _, h⟩
    · intro e; cases e
    · intro e
      have : d = 62 := by injection e with _ e; injection e
      exact h this
  have hw : K10.wordAt (c :: r) = some [c] := by rw [K10.wordAt_cons, if_neg (by rw [h1]; decide), if_neg ht, if_pos h2]
  show K10.words (c :: r) = _
  rw [words_word h3 hw]
  show (K10.words r).map _ = _
  rw [hr]; rfl
theorem CutsF.mark {c : Nat} (h1 : K10.long c = false) (h2 : K10.mark c = true) (h3 : K10.gap c = false) (h4 : c ≠ 61) : CutsF [c] [[c]] := fun r rs hr => by
  have ht : (c :: r).take 2 ≠ [61, 62] := by
    intro e
    cases r with
    | nil => cases e
    | cons d r => injection e with e; exact h4 e
  have hw : K10.wordAt (c :: r) = some [c] := by rw [K10.wordAt_cons, if_neg (by rw [h1]; decide), if_neg ht, if_pos h2]
  show K10.words (c :: r) = _
  rw [words_word h3 hw]
  show (K10.words r).map _ = _
  rw [hr]; rfl
theorem CutsF.arrow : CutsF [61, 62] [[61, 62]] := fun r rs hr => by
  have hw : K10.wordAt (61 :: 62 :: r) = some [61, 62] := by rw [K10.wordAt_cons, if_neg (by decide), if_pos (show List.take 2 (61 :: 62 :: r) = [61, 62] from rfl)]
  show K10.words (61 :: 62 :: r) = _
  rw [words_word (by decide) hw]
  show (K10.words r).map _ = _
  rw [hr]; rfl
theorem Cuts.whole {T : List Nat} {ws : List Wd} (h : Cuts T ws) : K10.words T = some ws := by
  have := h [] [] (.inl rfl) rfl
  rwa [List.append_nil, List.append_nil] at this
theorem CutsF.sp {c : Nat} {x : List Nat} (hx : (c :: x).all K10.long = true) (hg : K10.good (c :: x) = true) (hc : K10.gap c = false) : CutsF ((c :: x) ++ [32]) [c :: x] := by
  have := (Cuts.word hx hg hc).free (CutsF.gap (c := 32) rfl) ⟨32, [], rfl, by decide, by decide⟩
  simpa using this
def wtxt : List Wd → List Nat
  | [] => []
  | w :: r => w ++ ([32] ++ wtxt r)
theorem wtxt_cut : ∀ ah : List Wd, (∀ w ∈ ah, oneWord w = true) → CutsF (wtxt ah) ah
  | [], _ => fun r rs hr => hr
  | w :: ah, h => by
    have ih := wtxt_cut ah (fun x hx => h x (List.mem_cons_of_mem _ hx))
    have hw := h w (List.mem_cons_self ..)
    have h' : w = wHead ∨ w = wTail ∨ w = wEmpty ∨ w = wNot := by simpa [oneWord, or_assoc] using hw
    have h1 : CutsF (w ++ [32]) [w] := by
      rcases h' with rfl | rfl | rfl | rfl <;> exact CutsF.sp (by decide) (by decide) (by decide)
    have := h1.app ih
    rw [List.append_assoc] at this
    exact this
structure Tx where
  t : Th
  x : List Nat
def ttxt (u : Tx) : List Nat := wtxt u.t.ah ++ u.x
def rtxt : List (Wd × Tx) → List Nat
  | [] => []
  | (s, u) :: l => ([32] ++ (s ++ ([32] ++ ttxt u))) ++ rtxt l
abbrev thsOf (l : List (Wd × Tx)) : Rs := l.map fun p => (p.1, p.2.t)
theorem sgn_cut {s : Wd} (h : Sgn s) : Cuts s [s] := by
  have h' : s = wLt ∨ s = wEq ∨ s = wColon ∨ s = wPlus ∨ s = wMinus ∨ s = wTimes ∨ s = wOver ∨ s = wBang := by simpa [Sgn] using h
  rcases h' with rfl | rfl | rfl | rfl | rfl | rfl | rfl | rfl <;> exact Cuts.mark (by decide) (by decide) (by decide)
theorem sgn_sp {s : Wd} (h : Sgn s) : CutsF ([32] ++ (s ++ [32])) [s] := by
  have := (CutsF.gap (c := 32) rfl).app ((sgn_cut h).free (CutsF.gap (c := 32) rfl) ⟨32, [], rfl, by decide, by decide⟩)
  simpa using this
theorem ttxt_cut {u : Tx} (h1 : ∀ w ∈ u.t.ah, oneWord w = true) (h2 : Cuts u.x u.t.tk) : Cuts (ttxt u) (u.t.ah ++ u.t.tk) := (wtxt_cut _ h1).cuts h2
theorem rtxt_cut : ∀ (l : List (Wd × Tx)) (T : List Nat) (ws : List Wd), Cuts T ws → (∀ p ∈ l, Sgn p.1 ∧ (∀ w ∈ p.2.t.ah, oneWord w = true) ∧ Cuts p.2.x p.2.t.tk) → Cuts (T ++ rtxt l) (ws ++ toks (thsOf l))
  | [], T, ws, h, _ => by simpa [rtxt, toks] using h
  | (s, u) :: l, T, ws, h, H => by
    obtain ⟨hs, h1, h2⟩ := H (s, u) (List.mem_cons_self ..)
    have e1 : Cuts ([32] ++ (s ++ ([32] ++ ttxt u))) (s :: (u.t.ah ++ u.t.tk)) := by
      have := (sgn_sp hs).cuts (ttxt_cut h1 h2)
      simpa using this
    have e2 := h.app e1 ⟨32, _, rfl, by decide, by decide⟩
    have := rtxt_cut l _ _ e2 (fun p hp => H p (List.mem_cons_of_mem _ hp))
    have e3 : T ++ rtxt ((s, u) :: l) = (T ++ ([32] ++ (s ++ ([32] ++ ttxt u)))) ++ rtxt l := by simp [rtxt]
    have e4 : ws ++ toks (thsOf ((s, u) :: l)) = (ws ++ s :: (u.t.ah ++ u.t.tk)) ++ toks (thsOf l) := by simp [toks, thsOf]
    rw [e3, e4]
    exact this
end RD
namespace RD
def RowOk (ws : List Wd) (c nd : Nat) (tk : List Wd) (rs : Option Tm) : Prop := ∀ n level i rest, c ≤ n + level → level + nd ≤ 16 → ws.drop i = tk ++ rest → Tml rest → Rds ws ((bo ws n).1 1 level i) rs rest
theorem RowOk.mono {ws : List Wd} {c c' nd nd' : Nat} {tk : List Wd} {rs : Option Tm} (h : RowOk ws c nd tk rs) (hc : c ≤ c') (hn : nd ≤ nd') : RowOk ws c' nd' tk rs := fun n level i rest h1 h2 h3 h4 => h n level i rest (by omega) (by omega) h3 h4
theorem AtOk.mono {ws : List Wd} {c c' : Nat} {t : Th} (h : AtOk ws c t) (hc : c ≤ c') : AtOk ws c' t := fun n level i rest h1 h2 h3 h4 => h n level i rest (by omega) h2 h3 h4
section
variable {ws : List Wd} {c nd : Nat}
theorem at_name {x : Wd} (h1 : K10.isName x = true) (h2 : K10.isNum x = false) (ah : List Wd) : AtOk ws c ⟨ah, [x], some (.name x), nd⟩ := fun n level i rest _ _ hi ht => ⟨i + 1, tw_name hi h1 h2 ht.2.2, drop_one hi⟩
theorem row_atom {t : Th} (h20 : 20 ≤ c) (h : AtOk ws c t) (ho : ∃ x r, t.tk = x :: r ∧ oneWord x = false) : RowOk ws c t.nd t.tk t.rs := fun n level i rest hc hl hi ht => by
  obtain ⟨n, rfl⟩ : ∃ k, n = k + 1 := ⟨n - 1, by omega⟩
  obtain ⟨x, r, hx, ho⟩ := ho
  have e : ahead ws i = x := by rw [ahead_hd, hi, hx]; rfl
  have hR := h n level i rest (by omega) hl hi ht
  show Rds ws ((rOperand K10.isNum K10.isName ws (bo ws n).1 (bo ws n).2 level i).bind fun r => rowLoop ws (bo ws n).1 1 level (ws.length + 1) r.1 r.2) t.rs rest
  unfold rOperand
  rw [if_neg (by omega), e, if_neg (by rw [ho]; decide)]
  cases hr : t.rs with
  | none =>
    rw [hr] at hR
    have hR : rTW K10.isNum K10.isName ws (bo ws n).1 level i = none := hR
    rw [hR]; rfl
  | some a =>
    rw [hr] at hR
    obtain ⟨j, e1, e2⟩ := hR
    have ej : ahead ws j = hd rest := by rw [ahead_hd, e2]
    rw [e1]
    show Rds ws ((doLoop K10.isNum K10.isName ws (bo ws n).1 level (ws.length + 1) a j).bind fun r => rowLoop ws (bo ws n).1 1 level (ws.length + 1) r.1 r.2) (some a) rest
    unfold doLoop
    rw [ej, if_neg ht.2.1]
    show Rds ws (rowLoop ws (bo ws n).1 1 level (ws.length + 1) a j) (some a) rest
    unfold rowLoop
    rw [ej, ht.1, if_neg (by omega)]
    exact ⟨j, rfl, e2⟩
theorem exp_ok {w : Wd} {r : List Wd} {i : Nat} (h : ws.drop i = w :: r) : expect ws w i = some (i + 1) := by
  unfold expect
  rw [ahead_hd, h]
  exact if_pos rfl
theorem tml_of {w : Wd} {r : List Wd} (h : strength w = 0 ∧ w ≠ wBang ∧ w ≠ wOpen) : Tml (w :: r) := h
theorem rds_bind {α β : Type} {p : Option (α × Nat)} {res : Option α} {rest : List Wd} (h : Rds ws p res rest) (g : α × Nat → Option (β × Nat)) (res' : α → Option β) (rest' : List Wd) (hg : ∀ a j, ws.drop j = rest → Rds ws (g (a, j)) (res' a) rest') : Rds ws (p.bind g) (res.bind res') rest' := by
  cases res with
  | none => have h : p = none := h; rw [h]; rfl
  | some a =>
    obtain ⟨j, e1, e2⟩ := h
    rw [e1]
    exact hg a j e2
theorem rds_map {α β : Type} {p : Option (α × Nat)} {res : Option α} {rest : List Wd} (h : Rds ws p res rest) (g : α → β) : Rds ws (p.map fun r => (g r.1, r.2)) (res.map g) rest := by
  cases res with
  | none => have h : p = none := h; rw [h]; rfl
  | some a =>
    obtain ⟨j, e1, e2⟩ := h
    rw [e1]
    exact ⟨j, rfl, e2⟩
variable {T0 T1 T2 : List Wd} {r0 r1 r2 : Option Tm}
theorem at_if (h1 : RowOk ws c nd T1 r1) (h2 : RowOk ws c nd T2 r2) (h0 : RowOk ws c nd T0 r0) (ah : List Wd) : AtOk ws c ⟨ah, wIf :: (T1 ++ wThen :: (T2 ++ wElse :: T0)), r1.bind fun a => r2.bind fun b => r0.map fun d => .if_ a b d, nd + 1⟩ := fun n level i rest hc hl hi ht => by
  have hl : level + (nd + 1) ≤ 16 := hl
  have hi : ws.drop i = wIf :: (T1 ++ wThen :: (T2 ++ wElse :: (T0 ++ rest))) := by rw [hi]; simp
  have e : ahead ws i = wIf := by rw [ahead_hd, hi]; rfl
  unfold rTW rIf
  rw [e, if_pos rfl, exp_ok hi]
  show Rds ws (((bo ws n).1 1 (level + 1) (i + 1)).bind _) _ rest
  refine rds_bind (h1 n (level + 1) (i + 1) _ (by omega) (by omega) (drop_one hi) (tml_of (by decide))) _ _ _ fun a j hj => ?_
  show Rds ws ((expect ws wThen j).bind _) _ rest
  rw [exp_ok hj]
  show Rds ws (((bo ws n).1 1 (level + 1) (j + 1)).bind _) _ rest
  refine rds_bind (h2 n (level + 1) (j + 1) _ (by omega) (by omega) (drop_one hj) (tml_of (by decide))) _ _ _ fun b k hk => ?_
  show Rds ws ((expect ws wElse k).bind _) _ rest
  rw [exp_ok hk]
  exact rds_map (h0 n (level + 1) (k + 1) _ (by omega) (by omega) (drop_one hk) ht) _
theorem at_let {x : Wd} (hx : K10.isName x = true) (h1 : RowOk ws c nd T1 r1) (h0 : RowOk ws c nd T0 r0) (ah : List Wd) : AtOk ws c ⟨ah, wLet :: x :: wEq :: (T1 ++ wIn :: T0), r1.bind fun a => r0.map fun d => .let_ x a d, nd + 1⟩ := fun n level i rest hc hl hi ht => by
  have hl : level + (nd + 1) ≤ 16 := hl
  have hi : ws.drop i = wLet :: x :: wEq :: (T1 ++ wIn :: (T0 ++ rest)) := by rw [hi]; simp
  have e : ahead ws i = wLet := by rw [ahead_hd, hi]; rfl
  have hi1 := drop_one hi
  have e1 : ahead ws (i + 1) = x := by rw [ahead_hd, hi1]; rfl
  have hi2 := drop_one hi1
  unfold rTW rLet
  rw [e, if_neg (by decide), if_pos rfl, exp_ok hi]
  show Rds ws ((rName K10.isName ws (i + 1)).bind _) _ rest
  unfold rName
  rw [e1, if_pos hx]
  show Rds ws ((expect ws wEq (i + 1 + 1)).bind _) _ rest
  rw [exp_ok hi2]
  show Rds ws (((bo ws n).1 1 (level + 1) (i + 1 + 1 + 1)).bind _) _ rest
  refine rds_bind (h1 n (level + 1) _ _ (by omega) (by omega) (drop_one hi2) (tml_of (by decide))) _ _ _ fun b k hk => ?_
  show Rds ws ((expect ws wIn k).bind _) _ rest
  rw [exp_ok hk]
  exact rds_map (h0 n (level + 1) (k + 1) _ (by omega) (by omega) (drop_one hk) ht) _
theorem at_fn {x : Wd} (hx : K10.isName x = true) (h0 : RowOk ws c nd T0 r0) (ah : List Wd) : AtOk ws c ⟨ah, wFn :: x :: wArrow :: T0, r0.map fun d => .fn x d, nd + 1⟩ := fun n level i rest hc hl hi ht => by
  have hl : level + (nd + 1) ≤ 16 := hl
  have hi : ws.drop i = wFn :: x :: wArrow :: (T0 ++ rest) := by rw [hi]; simp
  have e : ahead ws i = wFn := by rw [ahead_hd, hi]; rfl
  have hi1 := drop_one hi
  have e1 : ahead ws (i + 1) = x := by rw [ahead_hd, hi1]; rfl
  have hi2 := drop_one hi1
  unfold rTW rFn
  rw [e, if_neg (by decide), if_neg (by decide), if_pos rfl, exp_ok hi]
  show Rds ws ((rName K10.isName ws (i + 1)).bind _) _ rest
  unfold rName
  rw [e1, if_pos hx]
  show Rds ws ((expect ws wArrow (i + 1 + 1)).bind _) _ rest
  rw [exp_ok hi2]
  exact rds_map (h0 n (level + 1) _ _ (by omega) (by omega) (drop_one hi2) ht) _
theorem at_br (h0 : RowOk ws c nd T0 r0) (ah : List Wd) : AtOk ws (c + 1) ⟨ah, wOpen :: (T0 ++ [wShut]), r0, nd⟩ := fun n level i rest hc hl hi ht => by
  have hl : level + nd ≤ 16 := hl
  have hi : ws.drop i = wOpen :: (T0 ++ wShut :: rest) := by rw [hi]; simp
  have e : ahead ws i = wOpen := by rw [ahead_hd, hi]; rfl
  unfold rTW rTight
  rw [e, if_neg (by decide), if_neg (by decide), if_neg (by decide), if_pos rfl]
  have hR := h0 n level (i + 1) _ (by omega) hl (drop_one hi) (tml_of (r := rest) (by decide))
  cases r0 with
  | none =>
    have hR : (bo ws n).1 1 level (i + 1) = none := hR
    rw [hR]; rfl
  | some a =>
    obtain ⟨j, e1, e2⟩ := hR
    rw [e1]
    show Rds ws ((expect ws wShut j).map _) _ rest
    rw [exp_ok e2]
    exact ⟨j + 1, rfl, drop_one e2⟩
theorem at_call {x : Wd} (hx : K10.isName x = true) (hm : K10.isNum x = false) (h0 : RowOk ws c nd T0 r0) (h1 : RowOk ws c nd T1 r1) (n0 : ∃ y r, T0 = y :: r ∧ y ≠ wShut) (ah : List Wd) : AtOk ws c ⟨ah, x :: wOpen :: (T0 ++ wComma :: (T1 ++ [wShut])), r0.bind fun a => r1.map fun b => .call x [a, b], nd + 1⟩ := fun n level i rest hc hl hi ht => by
  have hl : level + (nd + 1) ≤ 16 := hl
  have hi : ws.drop i = x :: wOpen :: (T0 ++ wComma :: (T1 ++ wShut :: rest)) := by rw [hi]; simp
  obtain ⟨q1, q2, q3, q4, q5, q6, q7⟩ := name_not hx
  have e : ahead ws i = x := by rw [ahead_hd, hi]; rfl
  have hi1 := drop_one hi
  have hi2 := drop_one hi1
  have e1 : ahead ws (i + 1) = wOpen := by rw [ahead_hd, hi1]; rfl
  have e2 : ahead ws (i + 1 + 1) ≠ wShut := by
    obtain ⟨y, r, hy, hne⟩ := n0
    rw [ahead_hd, hi2, hy]; exact hne
  unfold rTW rTight
  rw [e, if_neg q1, if_neg q2, if_neg q3, if_neg q4, if_neg q5, if_neg (by simp [q6, q7]), if_neg (by simp [hm]), if_pos hx]
  unfold rNamed rTerms
  rw [e1, if_pos rfl, exp_ok hi1]
  show Rds ws ((listed ws ((bo ws n).1 1 (level + 1)) 5 [] (i + 1 + 1)).map _) _ rest
  have hR := h0 n (level + 1) _ _ (by omega) (by omega) hi2 (tml_of (r := T1 ++ wShut :: rest) (by decide))
  unfold listed goesOn
  rw [if_neg e2, if_neg (by decide), if_neg (by decide)]
  dsimp only
  cases r0 with
  | none =>
    have hR : (bo ws n).1 1 (level + 1) (i + 1 + 1) = none := hR
    rw [hR]; rfl
  | some a =>
    obtain ⟨j, f1, f2⟩ := hR
    rw [f1]
    dsimp only
    have ej : ahead ws j = wComma := by rw [ahead_hd, f2]; rfl
    have hR := h1 n (level + 1) _ _ (by omega) (by omega) (drop_one f2) (tml_of (r := rest) (by decide))
    unfold listed goesOn
    rw [ej, if_neg (by decide), if_neg (by simp), if_pos (by simp), exp_ok f2]
    dsimp only [Option.map]
    cases r1 with
    | none =>
      have hR : (bo ws n).1 1 (level + 1) (j + 1) = none := hR
      rw [hR]; rfl
    | some b =>
      obtain ⟨k, g1, g2⟩ := hR
      rw [g1]
      dsimp only
      have ek : ahead ws k = wShut := by rw [ahead_hd, g2]; rfl
      unfold listed goesOn
      rw [ek, if_pos rfl]
      exact ⟨k + 1, rfl, drop_one g2⟩
end
end RD
namespace RD
def mdL : Ts → Nat
  | [] => 0
  | (_, b) :: l => max b.depth (mdL l)
def md (q : Tm × Ts) : Nat := max q.1.depth (mdL q.2)
def szL : Ts → Nat
  | [] => 0
  | (_, b) :: l => b.size + szL l
theorem fl_md (k : Nat) : ∀ (l : Ts) (a : Tm), md (fl k a l) + (fl k a l).2.length ≤ md (a, l) + l.length ∧ (fl k a l).2.length ≤ l.length ∧ (fl k a l).1.size + szL (fl k a l).2 + (fl k a l).2.length = a.size + szL l + l.length
  | [], a => ⟨Nat.le_refl _, Nat.le_refl _, rfl⟩
  | (s, b) :: l, a => by
    rw [fl]
    split
    · obtain ⟨h1, h2, h3⟩ := fl_md k l (.two s a b)
      refine ⟨?_, by simp only [List.length_cons]; omega, ?_⟩
      · have e : md (Tm.two s a b, l) ≤ md (a, (s, b) :: l) + 1 := by simp only [md, mdL, Tm.depth]; omega
        simp only [List.length_cons]; omega
      · rw [h3]; simp only [szL, Tm.size, List.length_cons]; omega
    · obtain ⟨h1, h2, h3⟩ := fl_md k l b
      refine ⟨?_, by simp only [List.length_cons]; omega, ?_⟩
      · simp only [md, mdL, List.length_cons] at h1 ⊢; omega
      · simp only [szL, List.length_cons]; omega
theorem fr_md : ∀ (l : Ts) (a : Tm), md (fr a l) + (fr a l).2.length ≤ md (a, l) + l.length ∧ (fr a l).2.length ≤ l.length ∧ (fr a l).1.size + szL (fr a l).2 + (fr a l).2.length = a.size + szL l + l.length
  | [], a => ⟨Nat.le_refl _, Nat.le_refl _, rfl⟩
  | (s, b) :: l, a => by
    obtain ⟨h1, h2, h3⟩ := fr_md l b
    rw [fr]
    split
    · refine ⟨?_, by simp only [List.length_cons]; omega, ?_⟩
      · simp only [md, mdL, List.length_cons, Tm.depth] at h1 ⊢; omega
      · simp only [szL, List.length_cons, Tm.size]; omega
    · refine ⟨?_, by simp only [List.length_cons]; omega, ?_⟩
      · simp only [md, mdL, List.length_cons] at h1 ⊢; omega
      · simp only [szL, List.length_cons]; omega
theorem fin_md {q : Tm × Ts} {t : Tm} (h : fin q = some t) : t.depth ≤ md q + q.2.length ∧ t.size = q.1.size + szL q.2 + q.2.length := by
  obtain ⟨a, l⟩ := q
  rcases l with _ | ⟨⟨s, b⟩, _ | ⟨y, r⟩⟩
  · cases h; exact ⟨by simp [md, mdL], by simp [szL]⟩
  · cases h; exact ⟨by simp only [md, mdL, Tm.depth, List.length_cons, List.length_nil]; omega, by simp only [szL, Tm.size, List.length_cons, List.length_nil]; omega⟩
  · cases h
theorem ones_depth (a : Tm) : ∀ ah : List Wd, (ones ah a).depth = a.depth + ah.length ∧ (ones ah a).size = a.size + ah.length
  | [] => ⟨rfl, rfl⟩
  | w :: ah => by
    obtain ⟨h1, h2⟩ := ones_depth a ah
    have e : ones (w :: ah) a = .one w (ones ah a) := rfl
    rw [e]
    simp only [Tm.depth, Tm.size, List.length_cons]
    omega
theorem grp_md {D S : Nat} : ∀ (l : Rs) (ah : List Wd) (a : Tm) (q : Tm × Ts), ah.length ≤ 2 → (∀ x ∈ l, x.2.ah.length ≤ 2 ∧ ∀ t, x.2.rs = some t → t.depth ≤ D) → grp ah a l = some q → md q + q.2.length ≤ max a.depth D + 2 + l.length
  | [], ah, a, q, h2, _, h => by
    cases h
    have := (ones_depth a ah).1
    simp only [md, mdL, List.length_nil]; omega
  | (s, t) :: l, ah, a, q, h2, H, h => by
    have Hl : ∀ x ∈ l, x.2.ah.length ≤ 2 ∧ ∀ t, x.2.rs = some t → t.depth ≤ D := fun x hx => H x (List.mem_cons_of_mem _ hx)
    obtain ⟨ht1, ht2⟩ := H (s, t) (List.mem_cons_self ..)
    unfold grp at h
    split at h
    · split at h
      · obtain ⟨b, hb, h⟩ := Option.bind_eq_some_iff.mp h
        have ih := grp_md (S := S) l ah _ q h2 Hl h
        have := ht2 b hb
        simp only [Tm.depth, List.length_cons] at ih ⊢; omega
      · cases h
    · obtain ⟨b, hb, h⟩ := Option.bind_eq_some_iff.mp h
      obtain ⟨r, hr, rfl⟩ := Option.map_eq_some_iff.mp h
      have ih := grp_md (S := S) l _ _ r ht1 Hl hr
      have hlen := grp_len l _ _ r hr
      have := (ones_depth a ah).1
      have := ht2 b hb
      simp only [md, mdL, List.length_cons] at ih ⊢; omega
def szR : Rs → Nat
  | [] => 0
  | (_, t) :: l => t.ah.length + (match t.rs with | none => 0 | some a => a.size) + szR l
theorem grp_sz : ∀ (l : Rs) (ah : List Wd) (a : Tm) (q : Tm × Ts), grp ah a l = some q → q.1.size + szL q.2 + q.2.length = a.size + ah.length + szR l + l.length
  | [], ah, a, q, h => by
    cases h
    have := (ones_depth a ah).2
    simp only [szL, szR, List.length_nil]; omega
  | (s, t) :: l, ah, a, q, h => by
    unfold grp at h
    split at h
    · split at h
      · rename_i hz
        obtain ⟨b, hb, h⟩ := Option.bind_eq_some_iff.mp h
        have ih := grp_sz l ah _ q h
        simp only [Tm.size, List.length_cons, szR, hb, hz, List.length_nil] at ih ⊢; omega
      · cases h
    · obtain ⟨b, hb, h⟩ := Option.bind_eq_some_iff.mp h
      obtain ⟨r, hr, rfl⟩ := Option.map_eq_some_iff.mp h
      have ih := grp_sz l _ _ r hr
      have := (ones_depth a ah).2
      simp only [szL, List.length_cons, szR, hb] at ih ⊢; omega
theorem tree_md {D : Nat} {t : Th} {l : Rs} {u : Tm} (h : tree t l = some u) (h1 : t.ah.length ≤ 2) (h2 : ∀ a, t.rs = some a → a.depth ≤ D) (H : ∀ x ∈ l, x.2.ah.length ≤ 2 ∧ ∀ t, x.2.rs = some t → t.depth ≤ D) :
    u.depth ≤ D + 2 + l.length ∧ u.size = t.ah.length + (match t.rs with | none => 0 | some a => a.size) + szR l + l.length := by
  unfold tree whole at h
  obtain ⟨q, hq, h⟩ := Option.bind_eq_some_iff.mp h
  obtain ⟨a, ha, hq⟩ := Option.bind_eq_some_iff.mp hq
  have g1 := grp_md (D := D) (S := 0) l _ a q h1 H hq
  have g2 := grp_sz l _ a q hq
  have := h2 a ha
  obtain ⟨f1, f2⟩ := fin_md h
  obtain ⟨a1, a2, a3⟩ := fr_md (lay3 q.1 q.2).2 (lay3 q.1 q.2).1
  obtain ⟨b1, b2, b3⟩ := fl_md 3 (fl 4 q.1 q.2).2 (fl 4 q.1 q.2).1
  obtain ⟨c1, c2, c3⟩ := fl_md 4 q.2 q.1
  have e1 : lay2 q.1 q.2 = fr (lay3 q.1 q.2).1 (lay3 q.1 q.2).2 := rfl
  have e2 : lay3 q.1 q.2 = fl 3 (fl 4 q.1 q.2).1 (fl 4 q.1 q.2).2 := rfl
  rw [← e1] at a1 a2 a3
  rw [← e2] at b1 b2 b3
  have m1 : md ((lay3 q.1 q.2).1, (lay3 q.1 q.2).2) = md (lay3 q.1 q.2) := rfl
  have m2 : md ((fl 4 q.1 q.2).1, (fl 4 q.1 q.2).2) = md (fl 4 q.1 q.2) := rfl
  have m3 : md (q.1, q.2) = md q := rfl
  rw [ha]
  constructor
  · omega
  · dsimp only; omega
end RD
namespace RD
def Nm (y : Wd) : Prop := ∃ c, y = [c] ∧ 97 ≤ c ∧ c ≤ 122
theorem nm_all : ∀ c : Nat, c < 123 → 97 ≤ c → (K10.isName [c] = true ∧ K10.isNum [c] = false ∧ oneWord [c] = false ∧ K10.long c = true ∧ K10.good [c] = true ∧ K10.gap c = false ∧ [c] ≠ wOpen ∧ [c] ≠ wShut) := by decide
theorem Nm.name {y : Wd} (h : Nm y) : K10.isName y = true := by obtain ⟨c, rfl, h1, h2⟩ := h; exact (nm_all c (by omega) h1).1
theorem Nm.num {y : Wd} (h : Nm y) : K10.isNum y = false := by obtain ⟨c, rfl, h1, h2⟩ := h; exact (nm_all c (by omega) h1).2.1
theorem Nm.one {y : Wd} (h : Nm y) : oneWord y = false := by obtain ⟨c, rfl, h1, h2⟩ := h; exact (nm_all c (by omega) h1).2.2.1
theorem Nm.cut {y : Wd} (h : Nm y) : Cuts y [y] := by
  obtain ⟨c, rfl, h1, h2⟩ := h
  obtain ⟨a1, a2, a3, a4, a5, a6, a7⟩ := nm_all c (by omega) h1
  exact Cuts.word (by simp [a4]) a5 a6
theorem Nm.op {y : Wd} (h : Nm y) : y ≠ wOpen := by obtain ⟨c, rfl, h1, h2⟩ := h; exact (nm_all c (by omega) h1).2.2.2.2.2.2.1
theorem Nm.sh {y : Wd} (h : Nm y) : y ≠ wShut := by obtain ⟨c, rfl, h1, h2⟩ := h; exact (nm_all c (by omega) h1).2.2.2.2.2.2.2
theorem Nm.len {y : Wd} (h : Nm y) : y.length = 1 := by obtain ⟨c, rfl, h1, h2⟩ := h; rfl
structure Lt where
  ah : List Wd
  nm : Wd
def Lt.ok (x : Lt) : Prop := (∃ w n, x.ah = List.replicate n w ∧ oneWord w = true ∧ n ≤ 2) ∧ Nm x.nm
theorem Lt.ok.len {x : Lt} (h : x.ok) : x.ah.length ≤ 2 := by
  obtain ⟨⟨w, n, e, _, hn⟩, _⟩ := h
  rw [e, List.length_replicate]; exact hn
theorem Lt.ok.all {x : Lt} (h : x.ok) : ∀ w ∈ x.ah, oneWord w = true := by
  obtain ⟨⟨w, n, e, ho, hn⟩, _⟩ := h
  intro y hy
  rw [e] at hy
  rw [(List.mem_replicate.mp hy).2]; exact ho
abbrev Lr := List (Wd × Lt)
def txOf (x : Lt) : Tx := ⟨⟨x.ah, [x.nm], some (.name x.nm), 0⟩, x.nm⟩
def mk1 (L : Lt → Tx) : Lt → Lr → Tx
  | x, [] => L x
  | x, _ :: _ => txOf x
def mk2 (L : Lt → Tx) : Lt → Lr → List (Wd × Tx)
  | _, [] => []
  | _, (s, y) :: l => (s, mk1 L y l) :: mk2 L y l
abbrev rowTk (a : Tx) (l : List (Wd × Tx)) : List Wd := a.t.ah ++ (a.t.tk ++ toks (thsOf l))
abbrev rowTx (a : Tx) (l : List (Wd × Tx)) : List Nat := ttxt a ++ rtxt l
abbrev rowTr (a : Tx) (l : List (Wd × Tx)) : Option Tm := tree a.t (thsOf l)
def opens (tk : List Wd) : Nat := (tk.filter fun w => decide (w = wOpen)).length
theorem opens_app (a b : List Wd) : opens (a ++ b) = opens a + opens b := by unfold opens; rw [List.filter_append, List.length_append]
theorem opens_cons (w : Wd) (b : List Wd) : opens (w :: b) = (if w = wOpen then 1 else 0) + opens b := by
  unfold opens
  rw [List.filter_cons]
  by_cases h : w = wOpen
  · rw [if_pos h, if_pos (decide_eq_true h), List.length_cons]; omega
  · rw [if_neg h, if_neg (by simp [h])]; omega
structure LOk (L : Lt → Tx) (c nd o len D S : Nat) : Prop where
  ah : ∀ x, (L x).t.ah = x.ah
  nd : ∀ x, (L x).t.nd = nd
  at_ : ∀ x ws, x.ok → AtOk ws c (L x).t
  cut : ∀ x, x.ok → Cuts (L x).x (L x).t.tk
  hd : ∀ x, x.ok → ∃ y r, (L x).t.tk = y :: r ∧ oneWord y = false ∧ y ≠ wShut
  num : ∀ x, x.ok → ∀ w ∈ (L x).t.tk, K10.isNum w = false
  op : ∀ x, x.ok → opens (L x).t.tk ≤ o
  len : ∀ x, x.ok → (L x).x.length ≤ len
  chr : ∀ x, x.ok → ∀ k ∈ (L x).x, k < 128
  dep : ∀ x, x.ok → ∀ t, (L x).t.rs = some t → t.depth ≤ D ∧ t.size ≤ S
theorem txOf_ok : LOk txOf 20 0 0 1 1 1 where
  ah _ := rfl
  nd _ := rfl
  at_ x ws h := at_name h.2.name h.2.num _
  cut x h := h.2.cut
  hd x h := ⟨x.nm, [], rfl, h.2.one, h.2.sh⟩
  num x h w hw := by have : w = x.nm := by simpa [txOf] using hw
                     rw [this]; exact h.2.num
  op x h := by show opens [x.nm] ≤ 0; rw [opens_cons, if_neg h.2.op]; exact Nat.le_refl _
  len x h := by show x.nm.length ≤ 1; rw [h.2.len]; exact Nat.le_refl _
  chr x h k hk := by obtain ⟨c, e, h1, h2⟩ := h.2; have hk : k ∈ x.nm := hk; rw [e] at hk; have : k = c := by simpa using hk
                     omega
  dep x h t ht := by cases ht; exact ⟨Nat.le_refl _, Nat.le_refl _⟩
theorem one_facts : ∀ w ∈ [wHead, wTail, wEmpty, wNot], K10.isNum w = false ∧ w ≠ wOpen ∧ w.length ≤ 5 ∧ (∀ k ∈ w, k < 128) ∧ w ≠ wShut := by decide
theorem one_mem {w : Wd} (h : oneWord w = true) : w ∈ [wHead, wTail, wEmpty, wNot] := by
  have h' : w = wHead ∨ w = wTail ∨ w = wEmpty ∨ w = wNot := by simpa [oneWord, or_assoc] using h
  rcases h' with rfl | rfl | rfl | rfl <;> decide
theorem sgn_facts : ∀ w ∈ [wLt, wEq, wColon, wPlus, wMinus, wTimes, wOver, wBang], K10.isNum w = false ∧ w ≠ wOpen ∧ w.length = 1 ∧ (∀ k ∈ w, k < 128) := by decide
theorem wtxt_len : ∀ ah : List Wd, (∀ w ∈ ah, oneWord w = true) → (wtxt ah).length ≤ 6 * ah.length ∧ (∀ k ∈ wtxt ah, k < 128) ∧ (∀ w ∈ ah, K10.isNum w = false) ∧ opens ah = 0
  | [], _ => ⟨by simp [wtxt], by simp [wtxt], by simp, rfl⟩
  | w :: ah, h => by
    obtain ⟨h1, h2, h3, h4⟩ := wtxt_len ah (fun x hx => h x (List.mem_cons_of_mem _ hx))
    obtain ⟨g1, g2, g3, g4, _⟩ := one_facts w (one_mem (h w (List.mem_cons_self ..)))
    refine ⟨by simp only [wtxt, List.length_append, List.length_cons, List.length_nil]; omega, ?_, ?_, by rw [opens_cons, if_neg g2, h4]⟩
    · intro k hk
      simp only [wtxt, List.mem_append] at hk
      rcases hk with hk | hk | hk
      · exact g4 k hk
      · have : k = 32 := by simpa using hk
        omega
      · exact h2 k hk
    · intro y hy
      rcases List.mem_cons.mp hy with rfl | hy
      · exact g1
      · exact h3 y hy
def Lrok (x : Lt) (l : Lr) : Prop := x.ok ∧ ∀ p ∈ l, Sgn p.1 ∧ p.2.ok
theorem Lrok.tail {x : Lt} {s : Wd} {y : Lt} {l : Lr} (h : Lrok x ((s, y) :: l)) : Sgn s ∧ Lrok y l := ⟨(h.2 (s, y) (List.mem_cons_self ..)).1, (h.2 (s, y) (List.mem_cons_self ..)).2, fun p hp => h.2 p (List.mem_cons_of_mem _ hp)⟩
section
variable {L : Lt → Tx} {c nd o len D S : Nat}
theorem mk2_len : ∀ (x : Lt) (l : Lr), (mk2 L x l).length = l.length
  | _, [] => rfl
  | _, (s, y) :: l => by simp [mk2, mk2_len y l]
theorem mk1_fact (h : LOk L c nd o len D S) (hc : 20 ≤ c) (ws : List Wd) {x : Lt} {l : Lr} (hx : x.ok) : Here ws c (mk1 L x l).t (thsOf (mk2 L x l)) := by
  cases l with
  | nil =>
    obtain ⟨y, r, e1, e2, _⟩ := h.hd x hx
    exact ⟨⟨by show (L x).t.ah.length ≤ 2; rw [h.ah]; exact hx.len, by show ∀ w ∈ (L x).t.ah, _; rw [h.ah]; exact hx.all⟩, h.at_ x ws hx, fun e => absurd rfl e, y, r, e1, e2⟩
  | cons p l => exact ⟨⟨hx.len, hx.all⟩, (txOf_ok.at_ x ws hx).mono hc, fun _ => ⟨x.nm, hx.2.name, hx.2.num, rfl, rfl⟩, x.nm, [], rfl, hx.2.one⟩
theorem mk2_fine (h : LOk L c nd o len D S) (hc : 20 ≤ c) (ws : List Wd) : ∀ (x : Lt) (l : Lr), Lrok x l → Fine ws c (thsOf (mk2 L x l))
  | _, [], _ => trivial
  | _, (s, y) :: l, hw => ⟨hw.tail.1, mk1_fact h hc ws hw.tail.2.1, mk2_fine h hc ws y l hw.tail.2⟩
theorem mk2_sgn : ∀ (x : Lt) (l : Lr), Lrok x l → ∀ p ∈ thsOf (mk2 L x l), Sgn p.1
  | _, [], _ => by intro p hp; cases hp
  | _, (s, y) :: l, hw => by
    intro p hp
    rcases List.mem_cons.mp hp with rfl | hp
    · exact hw.tail.1
    · exact mk2_sgn y l hw.tail.2 p hp
theorem mk1_nd (h : LOk L c nd o len D S) (x : Lt) (l : Lr) : (mk1 L x l).t.nd ≤ nd := by
  cases l with
  | nil => show (L x).t.nd ≤ nd; rw [h.nd]; exact Nat.le_refl _
  | cons p l => exact Nat.zero_le _
theorem mk2_fits (h : LOk L c nd o len D S) : ∀ (x : Lt) (l : Lr) (level : Nat), level + l.length + 2 + nd ≤ 16 → Fits level (thsOf (mk2 L x l))
  | _, [], _, _ => trivial
  | _, (s, y) :: l, level, hv => by
    simp only [List.length_cons] at hv
    have := mk1_nd h y l
    exact ⟨by show level + 3 + (mk1 L y l).t.nd ≤ 16; omega, mk2_fits h y l (level + 1) (by omega)⟩
theorem lrow_ok (h : LOk L c nd o len D S) (hc : 20 ≤ c) (ws : List Wd) {x : Lt} {l : Lr} (hw : Lrok x l) : RowOk ws c (l.length + 2 + nd) (rowTk (mk1 L x l) (mk2 L x l)) (rowTr (mk1 L x l) (mk2 L x l)) := fun n level i rest hn hl hi ht => by
  have := mk1_nd h x l
  exact row_tree hc ht hn (mk1_fact h hc ws hw.1) (mk2_fine h hc ws x l hw) (mk2_sgn x l hw) (by omega) (mk2_fits h x l level (by omega)) hi
theorem mk1_ah (h : LOk L c nd o len D S) (x : Lt) (l : Lr) : (mk1 L x l).t.ah = x.ah := by
  cases l with
  | nil => exact h.ah x
  | cons p l => rfl
theorem mk1_cut (h : LOk L c nd o len D S) {x : Lt} (hx : x.ok) (l : Lr) : Cuts (mk1 L x l).x (mk1 L x l).t.tk := by
  cases l with
  | nil => exact h.cut x hx
  | cons p l => exact txOf_ok.cut x hx
theorem mk2_cuts (h : LOk L c nd o len D S) : ∀ (x : Lt) (l : Lr), Lrok x l → ∀ p ∈ mk2 L x l, Sgn p.1 ∧ (∀ w ∈ p.2.t.ah, oneWord w = true) ∧ Cuts p.2.x p.2.t.tk
  | _, [], _ => by intro p hp; cases hp
  | _, (s, y) :: l, hw => by
    intro p hp
    rcases List.mem_cons.mp hp with rfl | hp
    · exact ⟨hw.tail.1, by show ∀ w ∈ (mk1 L y l).t.ah, _; rw [mk1_ah h]; exact hw.tail.2.1.all, mk1_cut h hw.tail.2.1 l⟩
    · exact mk2_cuts h y l hw.tail.2 p hp
theorem lrow_cut (h : LOk L c nd o len D S) {x : Lt} {l : Lr} (hw : Lrok x l) : Cuts (rowTx (mk1 L x l) (mk2 L x l)) (rowTk (mk1 L x l) (mk2 L x l)) := by
  have := rtxt_cut (mk2 L x l) _ _ (ttxt_cut (u := mk1 L x l) (by rw [mk1_ah h]; exact hw.1.all) (mk1_cut h hw.1 l)) (mk2_cuts h x l hw)
  rw [List.append_assoc] at this
  exact this
theorem mk1_num (h : LOk L c nd o len D S) {x : Lt} (hx : x.ok) (l : Lr) : (∀ w ∈ (mk1 L x l).t.ah ++ (mk1 L x l).t.tk, K10.isNum w = false) ∧ (∀ k ∈ ttxt (mk1 L x l), k < 128) ∧ opens ((mk1 L x l).t.ah ++ (mk1 L x l).t.tk) ≤ (if l = [] then o else 0) ∧ (ttxt (mk1 L x l)).length ≤ 12 + (if l = [] then len else 1) ∧ (∃ y r, (mk1 L x l).t.ah ++ (mk1 L x l).t.tk = y :: r ∧ y ≠ wShut) := by
  have gen : ∀ (M : Lt → Tx) (c' nd' o' len' D' S' : Nat), LOk M c' nd' o' len' D' S' → (∀ w ∈ (M x).t.ah ++ (M x).t.tk, K10.isNum w = false) ∧ (∀ k ∈ ttxt (M x), k < 128) ∧ opens ((M x).t.ah ++ (M x).t.tk) ≤ o' ∧ (ttxt (M x)).length ≤ 12 + len' ∧ (∃ y r, (M x).t.ah ++ (M x).t.tk = y :: r ∧ y ≠ wShut) := by
    intro M c' nd' o' len' D' S' hM
    have hah := hM.ah x
    obtain ⟨g1, g2, g3, g4⟩ := wtxt_len (M x).t.ah (by rw [hah]; exact hx.all)
    have hl2 : (M x).t.ah.length ≤ 2 := by rw [hah]; exact hx.len
    refine ⟨?_, ?_, ?_, ?_, ?_⟩
    · intro w hw
      rcases List.mem_append.mp hw with hw | hw
      · exact g3 w hw
      · exact hM.num x hx w hw
    · intro k hk
      rcases List.mem_append.mp hk with hk | hk
      · exact g2 k hk
      · exact hM.chr x hx k hk
    · rw [opens_app, g4, Nat.zero_add]; exact hM.op x hx
    · unfold ttxt
      rw [List.length_append]
      have := hM.len x hx
      omega
    · cases ha : (M x).t.ah with
      | nil =>
        obtain ⟨y, r, e, _, e2⟩ := hM.hd x hx
        exact ⟨y, r, e, e2⟩
      | cons w r =>
        refine ⟨w, r ++ (M x).t.tk, rfl, ?_⟩
        have := hx.all w (by rw [← hah, ha]; exact List.mem_cons_self ..)
        exact (one_facts w (one_mem this)).2.2.2.2
  cases l with
  | nil => rw [if_pos rfl, if_pos rfl]; exact gen L c nd o len D S h
  | cons p l => rw [if_neg (by simp), if_neg (by simp)]; exact gen txOf _ _ _ _ _ _ txOf_ok
theorem mk2_num (h : LOk L c nd o len D S) : ∀ (x : Lt) (l : Lr), Lrok x l → (∀ w ∈ toks (thsOf (mk2 L x l)), K10.isNum w = false) ∧ (∀ k ∈ rtxt (mk2 L x l), k < 128) ∧ opens (toks (thsOf (mk2 L x l))) ≤ (if l = [] then 0 else o) ∧ (rtxt (mk2 L x l)).length ≤ 16 * l.length + (if l = [] then 0 else len)
  | _, [], _ => ⟨(by intro w hw; cases hw), (by intro w hw; cases hw), Nat.le_refl _, Nat.le_refl _⟩
  | x, (s, y) :: l, hw => by
    obtain ⟨a1, a2, a3, a4, _⟩ := mk1_num h hw.tail.2.1 l
    obtain ⟨b1, b2, b3, b4⟩ := mk2_num h y l hw.tail.2
    obtain ⟨s1, s2, s3, s4⟩ := sgn_facts s hw.tail.1
    have e1 : toks (thsOf (mk2 L x ((s, y) :: l))) = s :: (((mk1 L y l).t.ah ++ (mk1 L y l).t.tk) ++ toks (thsOf (mk2 L y l))) := by simp [mk2, toks, thsOf]
    have e2 : rtxt (mk2 L x ((s, y) :: l)) = ([32] ++ (s ++ ([32] ++ ttxt (mk1 L y l)))) ++ rtxt (mk2 L y l) := rfl
    refine ⟨?_, ?_, ?_, ?_⟩
    · rw [e1]
      intro w hw'
      rcases List.mem_cons.mp hw' with rfl | hw'
      · exact s1
      · rcases List.mem_append.mp hw' with hw' | hw'
        · exact a1 w hw'
        · exact b1 w hw'
    · rw [e2]
      intro k hk
      simp only [List.mem_append] at hk
      rcases hk with (hk | hk | hk | hk) | hk
      · have : k = 32 := by simpa using hk
        omega
      · exact s4 k hk
      · have : k = 32 := by simpa using hk
        omega
      · exact a2 k hk
      · exact b2 k hk
    · rw [e1, opens_cons, if_neg s2, opens_app, if_neg (by simp)]
      split at a3 <;> split at b3 <;> first | omega | contradiction
    · rw [e2, if_neg (by simp)]
      simp only [List.length_append, List.length_cons, List.length_nil, s3]
      split at a4 <;> split at b4 <;> first | omega | contradiction
end
end RD
namespace RD
structure Pc where
  x : List Nat
  tk : List Wd
  rs : Option Tm
structure Pc.Ok (p : Pc) (nd : Nat) : Prop where
  cut : Cuts p.x p.tk
  row : ∀ ws, RowOk ws 20 nd p.tk p.rs
  hd : ∃ y r, p.tk = y :: r ∧ y ≠ wShut
  num : ∀ w ∈ p.tk, K10.isNum w = false
  op : opens p.tk = 0
  len : p.x.length ≤ 100
  chr : ∀ k ∈ p.x, k < 128
  dep : ∀ t, p.rs = some t → t.depth ≤ nd + 1 ∧ t.size ≤ 20
theorem szR_le {L : Lt → Tx} {c nd o len D S : Nat} (h : LOk L c nd o len D S) (hS : 1 ≤ S) : ∀ (x : Lt) (l : Lr), Lrok x l → szR (thsOf (mk2 L x l)) ≤ 3 * l.length + (if l = [] then 0 else S) ∧ (∀ p ∈ thsOf (mk2 L x l), p.2.ah.length ≤ 2 ∧ ∀ t, p.2.rs = some t → t.depth ≤ max D 1)
  | _, [], _ => ⟨Nat.le_refl _, by intro p hp; cases hp⟩
  | x, (s, y) :: l, hw => by
    obtain ⟨i1, i2⟩ := szR_le h hS y l hw.tail.2
    have hy := hw.tail.2.1
    have ha : (mk1 L y l).t.ah.length ≤ 2 := by rw [mk1_ah h]; exact hy.len
    have hr : ∀ t, (mk1 L y l).t.rs = some t → t.depth ≤ max D 1 ∧ t.size ≤ (if l = [] then S else 1) := by
      intro t ht
      cases l with
      | nil => obtain ⟨d1, d2⟩ := h.dep y hy t ht; rw [if_pos rfl]; exact ⟨by omega, d2⟩
      | cons p l => cases ht; rw [if_neg (by simp)]; exact ⟨by simp only [Tm.depth]; omega, Nat.le_refl _⟩
    constructor
    · show (mk1 L y l).t.ah.length + (match (mk1 L y l).t.rs with | none => 0 | some a => a.size) + szR (thsOf (mk2 L y l)) ≤ _
      rw [if_neg (by simp), List.length_cons]
      cases hrs : (mk1 L y l).t.rs with
      | none => dsimp only; split at i1 <;> omega
      | some a =>
        have := (hr a hrs).2
        dsimp only
        split at i1 <;> split at this <;> first | omega | contradiction
    · intro p hp
      rcases List.mem_cons.mp hp with rfl | hp
      · exact ⟨ha, fun t ht => (hr t ht).1⟩
      · exact i2 p hp
theorem lrow_md {L : Lt → Tx} {c nd o len D S : Nat} (h : LOk L c nd o len D S) (hS : 1 ≤ S) {x : Lt} {l : Lr} (hw : Lrok x l) {u : Tm} (hu : rowTr (mk1 L x l) (mk2 L x l) = some u) : u.depth ≤ max D 1 + 2 + l.length ∧ u.size ≤ 3 + 4 * l.length + S := by
  obtain ⟨s1, s2⟩ := szR_le h hS x l hw
  have ha : (mk1 L x l).t.ah.length ≤ 2 := by rw [mk1_ah h]; exact hw.1.len
  have hr : ∀ t, (mk1 L x l).t.rs = some t → t.depth ≤ max D 1 ∧ t.size ≤ (if l = [] then S else 1) := by
    intro t ht
    cases l with
    | nil => obtain ⟨d1, d2⟩ := h.dep x hw.1 t ht; rw [if_pos rfl]; exact ⟨by omega, d2⟩
    | cons p l => cases ht; rw [if_neg (by simp)]; exact ⟨by simp only [Tm.depth]; omega, Nat.le_refl _⟩
  obtain ⟨t1, t2⟩ := tree_md (D := max D 1) hu ha (fun a ha => (hr a ha).1) s2
  have hlen : (thsOf (mk2 L x l)).length = l.length := by rw [List.length_map, mk2_len]
  rw [hlen] at t1 t2
  refine ⟨t1, ?_⟩
  rw [t2]
  cases hrs : (mk1 L x l).t.rs with
  | none => dsimp only; split at s1 <;> omega
  | some a =>
    have := (hr a hrs).2
    dsimp only
    split at s1 <;> split at this <;> first | omega | contradiction
def pcR (x : Lt) (l : Lr) : Pc := ⟨rowTx (mk1 txOf x l) (mk2 txOf x l), rowTk (mk1 txOf x l) (mk2 txOf x l), rowTr (mk1 txOf x l) (mk2 txOf x l)⟩
theorem pcR_ok {x : Lt} {l : Lr} (hw : Lrok x l) (hl : l.length ≤ 3) : (pcR x l).Ok 5 := by
  obtain ⟨a1, a2, a3, a4, y, r, a5, a6⟩ := mk1_num txOf_ok hw.1 l
  obtain ⟨b1, b2, b3, b4⟩ := mk2_num txOf_ok x l hw
  have e : rowTk (mk1 txOf x l) (mk2 txOf x l) = ((mk1 txOf x l).t.ah ++ (mk1 txOf x l).t.tk) ++ toks (thsOf (mk2 txOf x l)) := by simp [rowTk]
  refine ⟨lrow_cut txOf_ok hw, fun ws => (lrow_ok txOf_ok (Nat.le_refl _) ws hw).mono (Nat.le_refl _) (by omega), ?_, ?_, ?_, ?_, ?_, ?_⟩
  · show ∃ y r, rowTk (mk1 txOf x l) (mk2 txOf x l) = y :: r ∧ y ≠ wShut
    rw [e, a5]
    exact ⟨y, _, rfl, a6⟩
  · show ∀ w ∈ rowTk (mk1 txOf x l) (mk2 txOf x l), _
    rw [e]
    intro w hw'
    rcases List.mem_append.mp hw' with hw' | hw'
    · exact a1 w hw'
    · exact b1 w hw'
  · show opens (rowTk (mk1 txOf x l) (mk2 txOf x l)) = 0
    rw [e, opens_app]
    split at a3 <;> split at b3 <;> omega
  · show (ttxt (mk1 txOf x l) ++ rtxt (mk2 txOf x l)).length ≤ 100
    rw [List.length_append]
    split at a4 <;> split at b4 <;> omega
  · intro k hk
    rcases List.mem_append.mp hk with hk | hk
    · exact a2 k hk
    · exact b2 k hk
  · intro t ht
    obtain ⟨d1, d2⟩ := lrow_md txOf_ok (Nat.le_refl _) hw ht
    exact ⟨by omega, by omega⟩
theorem pcR_small {x : Lt} {l : Lr} (hw : Lrok x l) (hl : l.length ≤ 3) : (pcR x l).x.length ≤ 80 ∧ ∀ t, (pcR x l).rs = some t → t.size ≤ 17 := by
  obtain ⟨a1, a2, a3, a4, y, r, a5, a6⟩ := mk1_num txOf_ok hw.1 l
  obtain ⟨b1, b2, b3, b4⟩ := mk2_num txOf_ok x l hw
  constructor
  · show (ttxt (mk1 txOf x l) ++ rtxt (mk2 txOf x l)).length ≤ 80
    rw [List.length_append]
    split at a4 <;> split at b4 <;> omega
  · intro t ht
    obtain ⟨d1, d2⟩ := lrow_md txOf_ok (Nat.le_refl _) hw ht
    omega
theorem Pc.Ok.mono {p : Pc} {nd nd' : Nat} (h : p.Ok nd) (hn : nd ≤ nd') : p.Ok nd' := ⟨h.cut, fun ws => (h.row ws).mono (Nat.le_refl _) hn, h.hd, h.num, h.op, h.len, h.chr, fun t ht => ⟨by have := (h.dep t ht).1; omega, (h.dep t ht).2⟩⟩
theorem row_name {y : Wd} (hy : Nm y) (ws : List Wd) : RowOk ws 20 5 [y] (some (.name y)) := (row_atom (t := ⟨[], [y], some (.name y), 0⟩) (Nat.le_refl _) (at_name hy.name hy.num []) ⟨y, [], rfl, hy.one⟩).mono (Nat.le_refl _) (show (0 : Nat) ≤ 5 by decide)
theorem nm_of (c : Nat) (h : 97 ≤ c) (h' : c ≤ 122) : Nm [c] := ⟨c, rfl, h, h'⟩
abbrev pre1 : List Nat := [105, 102, 32, 112, 32, 116, 104, 101, 110, 32, 113, 32, 101, 108, 115, 101, 32]
abbrev pre2 : List Nat := [108, 101, 116, 32, 122, 32, 61, 32, 114, 32, 105, 110, 32]
abbrev pre3 : List Nat := [102, 110, 32, 122, 32, 61, 62, 32]
theorem sp_word {c : Nat} {x : List Nat} (h : ((c :: x).all K10.long && K10.good (c :: x) && !K10.gap c) = true) : CutsF ((c :: x) ++ [32]) [c :: x] := by
  rw [Bool.and_eq_true, Bool.and_eq_true] at h
  exact CutsF.sp h.1.1 h.1.2 (by simpa using h.2)
theorem cut_eq_sp : CutsF [61, 32] [wEq] := by
  have := (Cuts.mark (c := 61) (by decide) (by decide) (by decide)).free (CutsF.gap (c := 32) rfl) ⟨32, [], rfl, by decide, by decide⟩
  simpa using this
theorem cut_arrow_sp : CutsF [61, 62, 32] [wArrow] := by
  have := CutsF.arrow.app (CutsF.gap (c := 32) rfl)
  simpa using this
theorem cut_pre1 : CutsF pre1 [wIf, [112], wThen, [113], wElse] := by
  have := (sp_word (c := 105) (x := [102]) (by decide)).app ((sp_word (c := 112) (x := []) (by decide)).app ((sp_word (c := 116) (x := [104, 101, 110]) (by decide)).app ((sp_word (c := 113) (x := []) (by decide)).app (sp_word (c := 101) (x := [108, 115, 101]) (by decide)))))
  exact this
theorem cut_pre2 : CutsF pre2 [wLet, [122], wEq, [114], wIn] := by
  have := (sp_word (c := 108) (x := [101, 116]) (by decide)).app ((sp_word (c := 122) (x := []) (by decide)).app (cut_eq_sp.app ((sp_word (c := 114) (x := []) (by decide)).app (sp_word (c := 105) (x := [110]) (by decide)))))
  exact this
theorem cut_pre3 : CutsF pre3 [wFn, [122], wArrow] := by
  have := (sp_word (c := 102) (x := [110]) (by decide)).app ((sp_word (c := 122) (x := []) (by decide)).app cut_arrow_sp)
  exact this
def pcW (k : Nat) (p : Pc) : Pc := if k = 1 then ⟨pre1 ++ p.x, [wIf, [112], wThen, [113], wElse] ++ p.tk, p.rs.map fun t => .if_ (.name [112]) (.name [113]) t⟩
  else if k = 2 then ⟨pre2 ++ p.x, [wLet, [122], wEq, [114], wIn] ++ p.tk, p.rs.map fun t => .let_ [122] (.name [114]) t⟩
  else ⟨pre3 ++ p.x, [wFn, [122], wArrow] ++ p.tk, p.rs.map fun t => .fn [122] t⟩
theorem pcW_ok {k : Nat} {p : Pc} (h : p.Ok 5) (hlen : p.x.length ≤ 80) (hsz : ∀ t, p.rs = some t → t.size ≤ 17) : (pcW k p).Ok 6 := by
  have gen : ∀ (pre : List Nat) (tk : List Wd) (g : Tm → Tm), CutsF pre tk → (∀ ws, RowOk ws 20 6 (tk ++ p.tk) (p.rs.map g)) → (∃ y r, tk = y :: r ∧ y ≠ wShut) → (∀ w ∈ tk, K10.isNum w = false) → opens tk = 0 → pre.length ≤ 20 → (∀ k ∈ pre, k < 128) → (∀ t, (g t).depth ≤ max 1 t.depth + 1 ∧ (g t).size ≤ t.size + 3) → (⟨pre ++ p.x, tk ++ p.tk, p.rs.map g⟩ : Pc).Ok 6 := by
    intro pre tk g h1 h2 h3 h4 h5 h6 h7 h8
    obtain ⟨y, r, e1, e2⟩ := h3
    refine ⟨h1.cuts h.cut, h2, ⟨y, r ++ p.tk, by rw [e1]; rfl, e2⟩, ?_, by rw [opens_app, h5, h.op], by show (pre ++ p.x).length ≤ 100; rw [List.length_append]; omega, ?_, ?_⟩
    · intro w hw
      rcases List.mem_append.mp hw with hw | hw
      · exact h4 w hw
      · exact h.num w hw
    · intro c hc
      rcases List.mem_append.mp hc with hc | hc
      · exact h7 c hc
      · exact h.chr c hc
    · intro t ht
      obtain ⟨u, hu, rfl⟩ := Option.map_eq_some_iff.mp ht
      have := h.dep u hu
      have := hsz u hu
      have := h8 u
      omega
  have np := nm_of 112 (by decide) (by decide)
  have nq := nm_of 113 (by decide) (by decide)
  have nr := nm_of 114 (by decide) (by decide)
  have nz := nm_of 122 (by decide) (by decide)
  unfold pcW
  split
  · refine gen _ _ _ cut_pre1 (fun ws => ?_) ⟨_, _, rfl, by decide⟩ (by decide) rfl (by decide) (by decide) (fun t => by simp only [Tm.depth, Tm.size]; omega)
    have := row_atom (Nat.le_refl _) (at_if (row_name np ws) (row_name nq ws) (h.row ws) []) ⟨wIf, _, rfl, by decide⟩
    simpa using this
  · split
    · refine gen _ _ _ cut_pre2 (fun ws => ?_) ⟨_, _, rfl, by decide⟩ (by decide) rfl (by decide) (by decide) (fun t => by simp only [Tm.depth, Tm.size]; omega)
      have := row_atom (Nat.le_refl _) (at_let nz.name (row_name nr ws) (h.row ws) []) ⟨wLet, _, rfl, by decide⟩
      simpa using this
    · refine gen _ _ _ cut_pre3 (fun ws => ?_) ⟨_, _, rfl, by decide⟩ (by decide) rfl (by decide) (by decide) (fun t => by simp only [Tm.depth, Tm.size]; omega)
      have := row_atom (Nat.le_refl _) (at_fn nz.name (h.row ws) []) ⟨wFn, _, rfl, by decide⟩
      simpa using this
abbrev tIf : List Nat := [105, 102, 32]
abbrev tThen : List Nat := [32, 116, 104, 101, 110, 32]
abbrev tElse : List Nat := [32, 101, 108, 115, 101, 32]
abbrev tLet : List Nat := [108, 101, 116, 32, 121, 32, 61, 32]
abbrev tIn : List Nat := [32, 105, 110, 32]
abbrev tFn : List Nat := [102, 110, 32, 121, 32, 61, 62, 32]
abbrev tF : List Nat := [102, 40]
abbrev tCo : List Nat := [44, 32]
abbrev tSh : List Nat := [41]
abbrev tOO : List Nat := [40, 40]
abbrev tSS : List Nat := [41, 41]
def lgX (way : Nat) (p0 p1 p2 : Pc) : List Nat := if way = 1 then tIf ++ (p1.x ++ (tThen ++ (p2.x ++ (tElse ++ p0.x)))) else if way = 2 then tLet ++ (p1.x ++ (tIn ++ p0.x)) else if way = 3 then tFn ++ p0.x else if way = 4 then tF ++ (p0.x ++ (tCo ++ (p1.x ++ tSh))) else tOO ++ (p0.x ++ tSS)
def lgK (way : Nat) (p0 p1 p2 : Pc) : List Wd := if way = 1 then wIf :: (p1.tk ++ wThen :: (p2.tk ++ wElse :: p0.tk)) else if way = 2 then wLet :: [121] :: wEq :: (p1.tk ++ wIn :: p0.tk) else if way = 3 then wFn :: [121] :: wArrow :: p0.tk else if way = 4 then [102] :: wOpen :: (p0.tk ++ wComma :: (p1.tk ++ [wShut])) else wOpen :: ((wOpen :: (p0.tk ++ [wShut])) ++ [wShut])
def lgR (way : Nat) (p0 p1 p2 : Pc) : Option Tm := if way = 1 then p1.rs.bind fun a => p2.rs.bind fun b => p0.rs.map fun d => .if_ a b d else if way = 2 then p1.rs.bind fun a => p0.rs.map fun d => .let_ [121] a d else if way = 3 then p0.rs.map fun d => .fn [121] d else if way = 4 then p0.rs.bind fun a => p1.rs.map fun b => .call [102] [a, b] else p0.rs
def lgL (way : Nat) (p0 p1 p2 : Pc) (x : Lt) : Tx := ⟨⟨x.ah, lgK way p0 p1 p2, lgR way p0 p1 p2, 7⟩, lgX way p0 p1 p2⟩
theorem sp_sp {c : Nat} {x : List Nat} (h : ((c :: x).all K10.long && K10.good (c :: x) && !K10.gap c) = true) : CutsF ([32] ++ ((c :: x) ++ [32])) [c :: x] := by
  have := (CutsF.gap (c := 32) rfl).app (sp_word h)
  simpa using this
theorem bd32 {r : List Nat} : ∃ c r', (32 :: r) = c :: r' ∧ K10.long c = false ∧ c ≠ 62 := ⟨32, r, rfl, by decide, by decide⟩
theorem lgL_ok {way : Nat} {p0 p1 p2 : Pc} (h0 : p0.Ok 6) (h1 : p1.Ok 6) (h2 : p2.Ok 6) : LOk (lgL way p0 p1 p2) 22 7 2 400 8 100 := by
  have ny := nm_of 121 (by decide) (by decide)
  have nf := nm_of 102 (by decide) (by decide)
  obtain ⟨y0, q0, hd0, hs0⟩ := h0.hd
  have hA : ∀ (ah : List Wd) (ws : List Wd), AtOk ws 22 ⟨ah, lgK way p0 p1 p2, lgR way p0 p1 p2, 7⟩ := by
    intro ah ws
    unfold lgK lgR
    by_cases w1 : way = 1
    · simp only [if_pos w1]; exact (at_if (h1.row ws) (h2.row ws) (h0.row ws) ah).mono (by decide)
    by_cases w2 : way = 2
    · simp only [if_neg w1, if_pos w2]; exact (at_let ny.name (h1.row ws) (h0.row ws) ah).mono (by decide)
    by_cases w3 : way = 3
    · simp only [if_neg w1, if_neg w2, if_pos w3]; exact (at_fn ny.name (h0.row ws) ah).mono (by decide)
    by_cases w4 : way = 4
    · simp only [if_neg w1, if_neg w2, if_neg w3, if_pos w4]; exact (at_call nf.name nf.num (h0.row ws) (h1.row ws) ⟨y0, q0, hd0, hs0⟩ ah).mono (by decide)
    · simp only [if_neg w1, if_neg w2, if_neg w3, if_neg w4]
      have b1 := row_atom (c := 21) (by decide) (at_br (h0.row ws) []) ⟨wOpen, _, rfl, by decide⟩
      exact at_br (c := 21) (nd := 7) (b1.mono (Nat.le_refl _) (show (6 : Nat) ≤ 7 by decide)) ah
  have hC : Cuts (lgX way p0 p1 p2) (lgK way p0 p1 p2) := by
    unfold lgX lgK
    by_cases w1 : way = 1
    · simp only [if_pos w1]
      have e1 := (sp_word (c := 105) (x := [102]) (by decide))
      have e2 := sp_sp (c := 116) (x := [104, 101, 110]) (by decide)
      have e3 := sp_sp (c := 101) (x := [108, 115, 101]) (by decide)
      have f1 := (h2.cut.free e3 bd32).cuts h0.cut
      have f2 := (h1.cut.free e2 bd32).cuts f1
      have f3 := e1.cuts f2
      simpa using f3
    by_cases w2 : way = 2
    · simp only [if_neg w1, if_pos w2]
      have e1 := (sp_word (c := 108) (x := [101, 116]) (by decide)).app ((sp_word (c := 121) (x := []) (by decide)).app cut_eq_sp)
      have e2 := sp_sp (c := 105) (x := [110]) (by decide)
      have f1 := e1.cuts ((h1.cut.free e2 bd32).cuts h0.cut)
      simpa using f1
    by_cases w3 : way = 3
    · simp only [if_neg w1, if_neg w2, if_pos w3]
      have e1 := (sp_word (c := 102) (x := [110]) (by decide)).app ((sp_word (c := 121) (x := []) (by decide)).app cut_arrow_sp)
      have f1 := e1.cuts h0.cut
      simpa using f1
    have ksh : Cuts tSh [wShut] := Cuts.mark (by decide) (by decide) (by decide)
    have kop : CutsF [40] [wOpen] := CutsF.mark (by decide) (by decide) (by decide) (by decide)
    by_cases w4 : way = 4
    · simp only [if_neg w1, if_neg w2, if_neg w3, if_pos w4]
      have e1 : CutsF tF [[102], wOpen] := nf.cut.free kop ⟨40, [], rfl, by decide, by decide⟩
      have e2 : CutsF tCo [wComma] := (CutsF.mark (c := 44) (by decide) (by decide) (by decide) (by decide)).app (CutsF.gap (c := 32) rfl)
      have f1 := h1.cut.app ksh ⟨41, [], rfl, by decide, by decide⟩
      have f2 := e1.cuts ((h0.cut.free e2 ⟨44, _, rfl, by decide, by decide⟩).cuts f1)
      simpa using f2
    · simp only [if_neg w1, if_neg w2, if_neg w3, if_neg w4]
      have f1 := (kop.app kop).cuts ((h0.cut.app ksh ⟨41, [], rfl, by decide, by decide⟩).app ksh ⟨41, [], rfl, by decide, by decide⟩)
      simpa using f1
  have hD : ∃ y r, lgK way p0 p1 p2 = y :: r ∧ oneWord y = false ∧ y ≠ wShut := by
    unfold lgK
    repeat' split
    all_goals exact ⟨_, _, rfl, by decide, by decide⟩
  have hN : ∀ w ∈ lgK way p0 p1 p2, K10.isNum w = false := by
    intro w hw
    unfold lgK at hw
    repeat' split at hw
    all_goals
      simp only [List.mem_cons, List.mem_append, List.not_mem_nil, or_false] at hw
      repeat' rcases hw with hw | hw
      all_goals first | exact h0.num w hw | exact h1.num w hw | exact h2.num w hw | (subst hw; decide) | decide
  have hO : opens (lgK way p0 p1 p2) ≤ 2 := by
    have a0 := h0.op
    have a1 := h1.op
    have a2 := h2.op
    have z1 : ∀ w : Wd, w ∈ [wIf, wThen, wElse, wLet, wIn, wEq, wFn, wArrow, wComma, wShut, [121], [102]] → (if w = wOpen then 1 else 0) = 0 := by decide
    unfold lgK
    repeat' split
    all_goals
      simp only [opens_cons, opens_app, a0, a1, a2]
      decide
  have hX : (lgX way p0 p1 p2).length ≤ 400 ∧ ∀ k ∈ lgX way p0 p1 p2, k < 128 := by
    have l0 := h0.len
    have l1 := h1.len
    have l2 := h2.len
    constructor
    · unfold lgX
      repeat' split
      all_goals
        simp only [List.length_append, List.length_cons, List.length_nil]
        omega
    · unfold lgX
      repeat' split
      all_goals simp only [List.forall_mem_append]
      · exact ⟨by decide, h1.chr, by decide, h2.chr, by decide, h0.chr⟩
      · exact ⟨by decide, h1.chr, by decide, h0.chr⟩
      · exact ⟨by decide, h0.chr⟩
      · exact ⟨by decide, h0.chr, by decide, h1.chr, by decide⟩
      · exact ⟨by decide, h0.chr, by decide⟩
  have hT : ∀ t, lgR way p0 p1 p2 = some t → t.depth ≤ 8 ∧ t.size ≤ 100 := by
    intro t ht
    unfold lgR at ht
    repeat' split at ht
    · obtain ⟨a, ha, ht⟩ := Option.bind_eq_some_iff.mp ht
      obtain ⟨b, hb, ht⟩ := Option.bind_eq_some_iff.mp ht
      obtain ⟨d, hd, rfl⟩ := Option.map_eq_some_iff.mp ht
      have := h1.dep a ha; have := h2.dep b hb; have := h0.dep d hd
      simp only [Tm.depth, Tm.size]; omega
    · obtain ⟨a, ha, ht⟩ := Option.bind_eq_some_iff.mp ht
      obtain ⟨d, hd, rfl⟩ := Option.map_eq_some_iff.mp ht
      have := h1.dep a ha; have := h0.dep d hd
      simp only [Tm.depth, Tm.size]; omega
    · obtain ⟨d, hd, rfl⟩ := Option.map_eq_some_iff.mp ht
      have := h0.dep d hd
      simp only [Tm.depth, Tm.size]; omega
    · obtain ⟨a, ha, ht⟩ := Option.bind_eq_some_iff.mp ht
      obtain ⟨d, hd, rfl⟩ := Option.map_eq_some_iff.mp ht
      have := h0.dep a ha; have := h1.dep d hd
      simp only [Tm.depth, Tm.size, depths, sizes]; omega
    · have := h0.dep t ht
      omega
  exact ⟨fun _ => rfl, fun _ => rfl, fun x ws _ => hA x.ah ws, fun _ _ => hC, fun _ _ => hD, fun _ _ => hN, fun _ _ => hO, fun _ _ => hX.1, fun _ _ => hX.2, fun _ _ => hT⟩
theorem LOk.up {L : Lt → Tx} {c nd o len D S c' : Nat} (h : LOk L c nd o len D S) (hc : c ≤ c') : LOk L c' nd o len D S := ⟨h.ah, h.nd, fun x ws hx => (h.at_ x ws hx).mono hc, h.cut, h.hd, h.num, h.op, h.len, h.chr, h.dep⟩
theorem brk_ok : ∀ (ws : List Wd) (n : Int), n + (opens ws : Nat) ≤ 16 → bracketsOk n ws = true
  | [], n, _ => rfl
  | w :: ws, n, h => by
    rw [opens_cons] at h
    have hd : delta w ≤ (if w = wOpen then 1 else 0 : Nat) := by
      unfold delta
      split <;> split <;> simp
    simp only [bracketsOk]
    rw [Bool.and_eq_true]
    refine ⟨decide_eq_true (by omega), brk_ok ws _ (by omega)⟩
abbrev wMain : Wd := [109, 97, 105, 110]
abbrev pre0 : List Nat := [100, 101, 102, 32, 109, 97, 105, 110, 40, 41, 32, 61, 32]
abbrev preK : List Wd := [wDef, wMain, wOpen, wShut, wEq]
theorem cut_pre0 : CutsF pre0 preK := by
  have kop : CutsF [40] [wOpen] := CutsF.mark (by decide) (by decide) (by decide) (by decide)
  have ksh : CutsF [41] [wShut] := CutsF.mark (by decide) (by decide) (by decide) (by decide)
  have m : CutsF ([109, 97, 105, 110] ++ [40]) [wMain, wOpen] := (Cuts.word (c := 109) (x := [97, 105, 110]) (by decide) (by decide) (by decide)).free kop ⟨40, [], rfl, by decide, by decide⟩
  have := (sp_word (c := 100) (x := [101, 102]) (by decide)).app (m.app (ksh.app ((CutsF.gap (c := 32) rfl).app cut_eq_sp)))
  exact this
theorem prog12 {tk : List Wd} {rs : Option Tm} (h : RowOk (preK ++ tk) 22 15 tk rs) : rProgram K10.isName (preK ++ tk) (bo (preK ++ tk) 32).1 = rs.map fun t => [⟨wMain, [], t⟩] := by
  have hw : ∀ i, (preK ++ tk).drop i = (preK.drop i) ++ (tk.drop (i - 5)) := fun i => by rw [List.drop_append]; rfl
  have hR := h 32 1 5 [] (by decide) (by decide) (by simp) (show strength [] = 0 ∧ ([] : Wd) ≠ wBang ∧ ([] : Wd) ≠ wOpen by decide)
  generalize hws : preK ++ tk = ws at *
  have a0 : ws.drop 0 = wDef :: wMain :: wOpen :: wShut :: wEq :: tk := by rw [← hws]; rfl
  have a1 := drop_one a0
  have a2 := drop_one a1
  have a3 := drop_one a2
  have a4 := drop_one a3
  have e1 : ahead ws (0 + 1) = wMain := by rw [ahead_hd, a1]; rfl
  have e3 : ahead ws (0 + 1 + 1 + 1) = wShut := by rw [ahead_hd, a3]; rfl
  have hF : rFunction K10.isName ws (bo ws 32).1 0 = ((bo ws 32).1 1 1 5).map fun r => (⟨wMain, [], r.1⟩, r.2) := by
    unfold rFunction
    rw [exp_ok a0]
    show ((rName K10.isName ws (0 + 1)).bind _) = _
    unfold rName
    rw [e1, if_pos (by decide)]
    show ((rNames K10.isName ws (0 + 1 + 1)).bind _) = _
    unfold rNames
    rw [exp_ok a2]
    show ((listed ws (rName K10.isName ws) 5 [] (0 + 1 + 1 + 1)).bind _) = _
    unfold listed goesOn
    rw [e3, if_pos rfl]
    show ((expect ws wEq (0 + 1 + 1 + 1 + 1)).bind _) = _
    rw [exp_ok a4]
    rfl
  unfold rProgram
  rw [hF]
  cases rs with
  | none =>
    have hR : (bo ws 32).1 1 1 5 = none := hR
    rw [hR]; rfl
  | some t =>
    obtain ⟨j, f1, f2⟩ := hR
    rw [f1]
    show (progLoop K10.isName ws (bo ws 32).1 13 [⟨wMain, [], t⟩] j).map _ = _
    unfold progLoop
    rw [show ahead ws j = [] by rw [ahead_hd, f2]; rfl, if_pos rfl]
    rfl
theorem read12 {L : Lt → Tx} {nd o len D S : Nat} (h : LOk L 22 nd o len D S) (hnd : nd ≤ 7) (ho : o ≤ 2) (hlen : len ≤ 400) (hD : D ≤ 8) (hS : S ≤ 100) (hS1 : 1 ≤ S) {x : Lt} {l : Lr} (hw : Lrok x l) (hl : l.length ≤ 6) :
    let T := pre0 ++ rowTx (mk1 L x l) (mk2 L x l)
    let ws := preK ++ rowTk (mk1 L x l) (mk2 L x l)
    K10.words T = some ws ∧ T.length ≤ 1000 ∧ (∀ k ∈ T, k < 128) ∧ (∀ w ∈ ws, K10.isNum w = false) ∧ bracketsOk 0 ws = true ∧ rProgram K10.isName ws (bo ws 32).1 = (rowTr (mk1 L x l) (mk2 L x l)).map (fun t => [⟨wMain, [], t⟩]) ∧ (∀ t, rowTr (mk1 L x l) (mk2 L x l) = some t → t.depth ≤ 16 ∧ t.size ≤ 300) := by
  intro T ws
  obtain ⟨a1, a2, a3, a4, y, r, a5, a6⟩ := mk1_num h hw.1 l
  obtain ⟨b1, b2, b3, b4⟩ := mk2_num h x l hw
  have e : rowTk (mk1 L x l) (mk2 L x l) = ((mk1 L x l).t.ah ++ (mk1 L x l).t.tk) ++ toks (thsOf (mk2 L x l)) := by simp [rowTk]
  refine ⟨(cut_pre0.cuts (lrow_cut h hw)).whole, ?_, ?_, ?_, ?_, ?_, ?_⟩
  · show (pre0 ++ (ttxt (mk1 L x l) ++ rtxt (mk2 L x l))).length ≤ 1000
    simp only [List.length_append, List.length_cons, List.length_nil]
    split at a4 <;> split at b4 <;> omega
  · intro k hk
    rcases List.mem_append.mp hk with hk | hk
    · exact (show ∀ k ∈ pre0, k < 128 by decide) k hk
    · rcases List.mem_append.mp hk with hk | hk
      · exact a2 k hk
      · exact b2 k hk
  · intro w hw'
    rcases List.mem_append.mp hw' with hw' | hw'
    · exact (show ∀ w ∈ preK, K10.isNum w = false by decide) w hw'
    · rw [e] at hw'
      rcases List.mem_append.mp hw' with hw' | hw'
      · exact a1 w hw'
      · exact b1 w hw'
  · apply brk_ok
    show (0 : Int) + (opens (preK ++ rowTk (mk1 L x l) (mk2 L x l)) : Nat) ≤ 16
    rw [opens_app, e, opens_app, show opens preK = 1 from rfl]
    split at a3 <;> split at b3 <;> omega
  · exact prog12 ((lrow_ok h (by decide) _ hw).mono (Nat.le_refl _) (by omega))
  · intro t ht
    obtain ⟨d1, d2⟩ := lrow_md h hS1 hw ht
    omega
end RD
set_option maxHeartbeats 4000000
namespace RD
open PySem L2
seal PE PT PW PA PS PSs PTs PI PG PGs PO PEX PSX
abbrev s_law_from_left : Stmt := top 44
theorem sc_law_from_left : FnScope ["_law_found", "_law_signs", "_law_some", "_law_terms", "_law_left", "_law_k"] ["_law_found", "_law_signs", "_law_some"] (defScope s_law_from_left) := ⟨rfl, rfl, rfl, by decide +kernel, rfl, by decide +kernel, by decide +kernel⟩
abbrev s_law_from_right : Stmt := top 45
theorem sc_law_from_right : FnScope ["_law_found", "_law_signs", "_law_terms", "_law_left", "_law_k"] ["_law_found", "_law_signs"] (defScope s_law_from_right) := ⟨rfl, rfl, rfl, by decide +kernel, rfl, by decide +kernel, by decide +kernel⟩
def ls (q : Tm × Ts) : List Tm := q.1 :: q.2.map (·.2)
def sg (q : Tm × Ts) : List Wd := q.2.map (·.1)
def Trs (H : Hp) (p : Addr) (ts : List Tm) : Prop := ∃ vs, H p = some (.lst vs) ∧ BU.All2 (TmAt H) ts vs
theorem Trs.same {H H' : Hp} {p : Addr} {ts : List Tm} (h : Trs H p ts) (s : Same H H') : Trs H' p ts := by
  obtain ⟨vs, h1, h2⟩ := h
  exact ⟨vs, s _ _ h1, h2.imp fun a b t => t.mono (BU.tups_of s)⟩
theorem same_upd {H H' : Hp} {p : Addr} {o : HO} (s : Same H H') (h : H p = none) : Same H (upd H' p o) := fun b u e => by rw [upd_ne (ne_of_none e h)]; exact s _ _ e
theorem tups_lst {H : Hp} {p : Addr} {xs ys : List V} (h : H p = some (.lst xs)) : BU.Tups H (upd H p (.lst ys)) := fun b zs e => by rw [upd_ne (ne_of e h (by intro z; cases z))]; exact e
theorem cut_one (v : V) (vs : List V) : cutV (v :: vs) none (some 1) = [v] := by
  unfold cutV HT.sIx
  simp
theorem set_last {α : Type} (D : List α) (a b : α) : (D ++ [a]).set D.length b = D ++ [b] := by simp
theorem ixN_last {α : Type} (D : List α) (a : α) : ixN (D ++ [a]).length (-1) = some D.length := by
  have hl : (D ++ [a]).length = D.length + 1 := by simp
  unfold ixN
  rw [hl, if_neg (by omega), if_pos (by omega)]
  congr 1
  omega
theorem drop_at {α : Type} {l : List α} {i : Nat} (h : i < l.length) : l.drop i = l[i] :: l.drop (i + 1) := List.drop_eq_getElem_cons h
section
variable {P : Program} {w : World} {K : PySem.W.Frag} {mg : Str → Option Value} {base : Heap} {f : Addr} {fd : FuncData}
def spFL : Sp := fun vs H Q _ => ∃ (pf ps : Addr) (z : Str) (zl : List Nat) (k : Nat) (q : Tm × Ts), vs = [.ref pf, .ref ps, .str z] ∧ z = tx zl ∧ (∀ s ∈ sg q, ∃ c, s = [c] ∧ decide (c ∈ zl) = decide (strength s = k)) ∧ Trs H pf (ls q) ∧ H ps = some (.lst (wds (sg q))) ∧ q.2.length ≤ 100 ∧
  ∀ H' r pf' ps', Same H H' → H' r = some (.tup [.ref pf', .ref ps']) → Trs H' pf' (ls (fl k q.1 q.2)) → H' ps' = some (.lst (wds (sg (fl k q.1 q.2)))) → Q (.ref r) H'
theorem ok_law_from_left (F : Fun K "_law_from_left" "_law_from_left" s_law_from_left f fd) (B : NoG mg) : FnOk P w K mg base CX0 1 f fd ["_law_found", "_law_signs", "_law_some"] spFL := by
  refine F.ok sc_law_from_left (fun vs H Q E h => ?_) (fun cdv A outer s H vs Q E hr h => ?_)
  · obtain ⟨pf, ps, z, zl, k, q, rfl, _⟩ := h
    rfl
  obtain ⟨pf, ps, z, zl, k, q, rfl, rfl, hz, ⟨us, hpf, hA⟩, hps, hl, qq⟩ := h
  have nd := sc_law_from_left.nd
  have hu := hr.units0
  have z0 : (0 : Nat) ≤ sizeLine := by decide
  have z2 : (2 : Nat) ≤ sizeLine := by decide
  have z4 : (4 : Nat) ≤ sizeLine := by decide
  have hlen := hA.len
  have hsl : (sg q).length = q.2.length := by unfold sg; rw [List.length_map]
  have hll : (ls q).length = q.2.length + 1 := by unfold ls; rw [List.length_cons, List.length_map]
  refine ⟨_, (pss_cons (ps_set (i := 3) nd rfl (Or.inl rfl) (pe_slice (kSl (K := K)) (pv 0) po_none (po_some pe_int)))
      (pss_cons (ps_set (i := 4) nd rfl (Or.inl rfl) (pe_lst pa_nil))
      (pss_cons (ps_for PassesOwn.never rfl (pi_range1 rfl B.range_ (pa_cons (pe_callB (k_len (K := K)) rfl B.len_ bt_len (pa_cons (pv 1) pa_nil)) pa_nil)) (pg_name (i := 5) nd rfl (Or.inl rfl)) (pss_one (ps_cut (ps_if (pt_cmpR (kIn (K := K) (w := w)) (pe_ix (kIx (K := K) (w := w)) (pv 1) (pv 5) (fun _ _ => rfl)) (pv 2) rfl) (pss_one (ps_asg (pe_tup (pa_cons pe_str (pa_cons (pe_ix (kIx (K := K) (w := w)) (pv 1) (pv 5) (fun _ _ => rfl)) (pa_cons (pe_ix (kIx (K := K) (w := w)) (pv 3) (pe_un un_neg pe_int) (fun _ _ => rfl)) (pa_cons (pe_ix (kIx (K := K) (w := w)) (pv 0) (pe_op uAdd (pv 5) pe_int) (fun _ _ => rfl)) pa_nil))))) (pg_sub (pv 3) (pe_un un_neg pe_int) set_list))) (pss_cons (ps_expr (k_bm (K := K) PySem.F.plainAttrs_list PySem.F.slot_list_append PySem.F.type_list_append mt_append (pv 3) (pa_cons (pe_ix (kIx (K := K) (w := w)) (pv 0) (pe_op uAdd (pv 5) pe_int) (fun _ _ => rfl)) pa_nil)))
      (pss_one (ps_expr (k_bm (K := K) PySem.F.plainAttrs_list PySem.F.slot_list_append PySem.F.type_list_append mt_append (pv 4) (pa_cons (pe_ix (kIx (K := K) (w := w)) (pv 1) (pv 5) (fun _ _ => rfl)) pa_nil)))))))))
      (pss_one (ps_ret (pe_tup (pa_cons (pv 3) (pa_cons (pv 4) pa_nil)))))))), ?_⟩
  obtain ⟨v0, us', rfl⟩ : ∃ v0 us', us = v0 :: us' := by
    cases us with
    | nil => rw [hll] at hlen; simp at hlen
    | cons v0 us' => exact ⟨v0, us', rfl⟩
  refine ⟨_, rfl, _, rfl, .inl ⟨pf, _, rfl, SqL.of hpf, fun pt hpt => ?_⟩⟩
  rw [cut_one]
  refine ⟨z0, fun pl hpl => ?_⟩
  have hptl : pt ≠ pl := ne_of_none (upd_same (H := H) (o := .lst [v0])) hpl
  have hHl : H pl = none := by
    cases e : H pl with
    | none => rfl
    | some o => rw [upd_ne hptl.symm] at hpl; rw [e] at hpl; cases hpl
  have s0 : Same H (upd (upd H pt (.lst [v0])) pl (.lst [])) := same_upd (same_upd (Same.refl _) hpt) hHl
  refine ⟨_, rfl, _, _, rfl, .inl ⟨_, SqL.of (s0 _ _ hps), rfl⟩, _, rfl, by omega, ?_, ?_⟩
  · simp only [List.length_map, hsl]; omega
  have en : ((((wds (sg q)).length : Nat) : Int)).toNat = q.2.length := by simp only [List.length_map, hsl]; omega
  rw [en]
  refine for_range (n := q.2.length) (lo := 0) (fun i σ H' => ∃ (x : Option V) (D : List Tm) (a : Tm) (S : List Wd) (ds : List V) (va : V), σ = [some (.ref pf), some (.ref ps), some (.str (tx zl)), some (.ref pt), some (.ref pl), x] ∧ Same H H' ∧ H' pt = some (.lst (ds ++ [va])) ∧ BU.All2 (TmAt H') D ds ∧ TmAt H' a va ∧ H' pl = some (.lst (wds S)) ∧ D.length ≤ i ∧ S.length ≤ i ∧
    D ++ ls (fl k a (q.2.drop i)) = ls (fl k q.1 q.2) ∧ S ++ sg (fl k a (q.2.drop i)) = sg (fl k q.1 q.2)) ?_ ?_ ?_
  · obtain ⟨hA0, hA1⟩ : TmAt H q.1 v0 ∧ True := by
      cases hA with
      | cons h t => exact ⟨h, trivial⟩
    exact ⟨none, [], q.1, [], [], v0, rfl, s0, by rw [upd_ne hptl, upd_same]; rfl, .nil, hA0.mono (BU.tups_of s0), upd_same, Nat.le_refl _, Nat.le_refl _, rfl, rfl⟩
  · rintro i σ H' hi ⟨x, D, a, S, ds, va, rfl, sm, ht, hD, ha, hL, hD1, hS1, e1, e2⟩
    have hd := drop_at hi
    obtain ⟨⟨sgn, b⟩, hsb⟩ : ∃ x, q.2[i] = x := ⟨_, rfl⟩
    rw [hsb] at hd
    rw [hd] at e1 e2
    have hsi : (sg q)[i]? = some sgn := by unfold sg; rw [List.getElem?_map, List.getElem?_eq_getElem hi, hsb]; rfl
    obtain ⟨c, rfl, hcz⟩ := hz sgn (List.mem_of_getElem? hsi)
    have hat : atI (wds (sg q)) (0 + (i : Int)) = some (.str (tx [c])) := by rw [Int.zero_add]; exact atI_nat (by rw [List.getElem?_map, hsi]; rfl)
    have hbi : (ls q)[i + 1]? = some b := by unfold ls; rw [List.getElem?_cons_succ, List.getElem?_map, List.getElem?_eq_getElem hi, hsb]; rfl
    obtain ⟨vb, hvb, hb⟩ := hA.get' hbi
    have hb := hb.mono (BU.tups_of sm)
    have hab : atI (v0 :: us') (0 + (i : Int) + 1) = some vb := by rw [Int.zero_add, show (i : Int) + 1 = ((i + 1 : Nat) : Int) by omega]; exact atI_nat hvb
    have hds := hD.len
    refine ⟨_, ?_, fun _ _ h => h⟩
    refine ⟨_, rfl, _, rfl, .inl ⟨ps, _, _, _, rfl, rfl, SqL.of (sm _ _ hps), hat, _, rfl, .inl ⟨_, _, rfl, rfl, _, rfl, ?_⟩⟩⟩
    rw [in_one, hcz]
    by_cases hk : strength [c] = k
    · rw [decide_eq_true hk]
      rw [fl_pos hk] at e1 e2
      refine ifT rfl ?_
      refine ⟨_, rfl, _, rfl, .inl ⟨ps, _, _, _, rfl, rfl, SqL.of (sm _ _ hps), hat, ?_⟩⟩
      refine ⟨_, rfl, _, rfl, .inl ⟨pt, _, _, _, rfl, rfl, SqL.of ht, atI_last _ _, ?_⟩⟩
      refine ⟨_, rfl, _, rfl, .inl ⟨_, _, rfl, rfl, .inl ⟨pf, _, _, _, rfl, rfl, SqL.of (sm _ _ hpf), hab, ?_⟩⟩⟩
      refine ⟨z4, fun p hp => ?_⟩
      have s1 := same_new hp (.tup [.str "two", .str (tx [c]), va, vb])
      refine ⟨_, rfl, _, rfl, pt, _, _, _, rfl, rfl, s1 _ _ ht, ixN_last _ _, ?_⟩
      rw [set_last]
      have tl := tups_lst (ys := ds ++ [.ref p]) (s1 _ _ ht)
      have tt := (BU.tups_of s1).trans tl
      refine ⟨_, D, .two [c] a b, S, ds, .ref p, rfl, ?_, upd_same, hD.imp fun _ _ h => h.mono tt, ?_, ?_, by omega, by omega, e1, e2⟩
      · exact same_upd (sm.trans s1) hpt
      · exact .two (tl _ _ upd_same) (ha.mono tt) (hb.mono tt)
      · rw [upd_ne hptl.symm]; exact s1 _ _ hL
    · rw [decide_eq_false hk]
      rw [fl_neg hk] at e1 e2
      refine ifF (by decide) ?_
      have hdl : ds.length ≤ 100 := by omega
      refine ⟨_, rfl, .inl ⟨rfl, _, SqL.of ht⟩, _, rfl, _, rfl, .inl ⟨_, _, rfl, rfl, .inl ⟨pf, _, _, _, rfl, rfl, SqL.of (sm _ _ hpf), hab, ?_⟩⟩⟩
      refine ⟨pt, _, _, rfl, rfl, ht, by have : (1000 : Nat) < sizeLine := by decide
                                         simp only [List.length_append, List.length_cons, List.length_nil]; omega, ?_⟩
      have tl := tups_lst (ys := ds ++ [va] ++ [vb]) ht
      have sm2 : Same H (upd H' pt (.lst (ds ++ [va] ++ [vb]))) := same_upd sm hpt
      have hL2 : (upd H' pt (.lst (ds ++ [va] ++ [vb]))) pl = some (.lst (wds S)) := by rw [upd_ne hptl.symm]; exact hL
      have ht2 : (upd H' pt (.lst (ds ++ [va] ++ [vb]))) pt = some (.lst (ds ++ [va] ++ [vb])) := upd_same
      generalize upd H' pt (.lst (ds ++ [va] ++ [vb])) = H2 at tl sm2 hL2 ht2 ⊢
      refine ⟨_, rfl, .inl ⟨rfl, _, SqL.of hL2⟩, _, rfl, _, rfl, .inl ⟨ps, _, _, _, rfl, rfl, SqL.of (sm2 _ _ hps), hat, ?_⟩⟩
      refine ⟨pl, _, _, rfl, rfl, hL2, by have : (1000 : Nat) < sizeLine := by decide
                                          simp only [List.length_map]; omega, ?_⟩
      have tl2 := tups_lst (ys := wds S ++ [.str (tx [c])]) hL2
      have tt := tl.trans tl2
      refine ⟨_, D ++ [a], b, S ++ [[c]], ds ++ [va], vb, rfl, same_upd sm2 hHl, ?_, ?_, hb.mono tt, ?_, by simp; omega, by simp; omega, ?_, ?_⟩
      · rw [upd_ne hptl]; exact ht2
      · exact (hD.imp fun _ _ h => h.mono tt).app (.cons (ha.mono tt) .nil)
      · rw [upd_same]; simp [wds]
      · rw [← e1]; simp [ls, mp]
      · rw [← e2]; simp [sg, mp]
  · rintro σ H' ⟨x, D, a, S, ds, va, rfl, sm, ht, hD, ha, hL, hD1, hS1, e1, e2⟩
    rw [List.drop_length] at e1 e2
    refine ⟨_, rfl, _, rfl, z2, fun r hr => ?_⟩
    have s1 := same_new hr (.tup [.ref pt, .ref pl])
    refine qq _ r pt pl (sm.trans s1) upd_same ⟨_, s1 _ _ ht, ?_⟩ ?_
    · rw [← e1]
      exact (hD.imp fun _ _ h => h.mono (BU.tups_of s1)).app (.cons (ha.mono (BU.tups_of s1)) .nil)
    · rw [← e2]
      simp only [fl, sg, List.map_nil, List.append_nil]
      exact s1 _ _ hL
def spFR : Sp := fun vs H Q _ => ∃ (pf ps : Addr) (q : Tm × Ts), vs = [.ref pf, .ref ps] ∧ Trs H pf (ls q) ∧ H ps = some (.lst (wds (sg q))) ∧ q.2.length ≤ 100 ∧
  ∀ H' r pf' ps', Same H H' → H' r = some (.tup [.ref pf', .ref ps']) → Trs H' pf' (ls (fr q.1 q.2)) → H' ps' = some (.lst (wds (sg (fr q.1 q.2)))) → Q (.ref r) H'
def from_ (q : Tm × Ts) : Nat → Tm × Ts
  | 0 => q
  | i + 1 => (((q.2[i]?).map (·.2)).getD q.1, q.2.drop (i + 1))
theorem from_last (q : Tm × Ts) : (from_ q q.2.length).2 = [] := by
  cases h : q.2.length with
  | zero => exact List.eq_nil_of_length_eq_zero h
  | succ n => show q.2.drop (n + 1) = []; rw [← h, List.drop_length]
theorem from_at {q : Tm × Ts} {i : Nat} (h : i < q.2.length) : (from_ q i).2 = (q.2[i].1, (from_ q (i + 1)).1) :: (from_ q (i + 1)).2 := by
  have e : (from_ q (i + 1)) = (q.2[i].2, q.2.drop (i + 1)) := by show ((((q.2[i]?).map (·.2)).getD q.1), _) = _; rw [List.getElem?_eq_getElem h]; rfl
  rw [e]
  cases i with
  | zero => exact drop_at h
  | succ n => exact drop_at h
theorem from_ls {q : Tm × Ts} {i : Nat} (h : i ≤ q.2.length) : (ls q)[i]? = some (from_ q i).1 := by
  cases i with
  | zero => rfl
  | succ n =>
    show (ls q)[n + 1]? = some (((q.2[n]?).map (·.2)).getD q.1)
    unfold ls
    rw [List.getElem?_cons_succ, List.getElem?_map, List.getElem?_eq_getElem (by omega)]
    rfl
theorem cut_last (xs : List V) (v : V) : cutV (xs ++ [v]) (some (-1)) none = [v] := by
  have e : (-1 + ((xs.length : Int) + 1)).toNat = xs.length := by omega
  unfold cutV HT.sIx
  simp [e]
theorem ix_zero {α : Type} (v : α) (vs : List α) : ixN (v :: vs).length 0 = some 0 := by unfold ixN; rw [if_pos (by omega), if_pos (by simp only [List.length_cons]; omega)]; rfl
theorem ok_law_from_right (F : Fun K "_law_from_right" "_law_from_right" s_law_from_right f fd) (B : NoG mg) : FnOk P w K mg base CX0 1 f fd ["_law_found", "_law_signs"] spFR := by
  refine F.ok sc_law_from_right (fun vs H Q E h => ?_) (fun cdv A outer s H vs Q E hr h => ?_)
  · obtain ⟨pf, ps, q, rfl, _⟩ := h
    rfl
  obtain ⟨pf, ps, q, rfl, ⟨us, hpf, hA⟩, hps, hl, qq⟩ := h
  have nd := sc_law_from_right.nd
  have hu := hr.units0
  have z0 : (0 : Nat) ≤ sizeLine := by decide
  have z1 : (1 : Nat) ≤ sizeLine := by decide
  have z2 : (2 : Nat) ≤ sizeLine := by decide
  have z4 : (4 : Nat) ≤ sizeLine := by decide
  have hlen := hA.len
  have hsl : (sg q).length = q.2.length := by unfold sg; rw [List.length_map]
  have hll : (ls q).length = q.2.length + 1 := by unfold ls; rw [List.length_cons, List.length_map]
  refine ⟨_, (pss_cons (ps_set (i := 2) nd rfl (Or.inl rfl) (pe_slice (kSl (K := K)) (pv 0) (po_some (pe_un un_neg pe_int)) po_none))
      (pss_cons (ps_set (i := 3) nd rfl (Or.inl rfl) (pe_lst pa_nil))
      (pss_cons (ps_for PassesOwn.never rfl (pi_range3 rfl B.range_ (pa_cons (pe_op op_sub (pe_callB (k_len (K := K)) rfl B.len_ bt_len (pa_cons (pv 1) pa_nil)) pe_int) (pa_cons (pe_un un_neg pe_int) (pa_cons (pe_un un_neg pe_int) pa_nil)))) (pg_name (i := 4) nd rfl (Or.inl rfl)) (pss_one (ps_cut (ps_if (pt_cmpR (kEq (K := K) hu) (pe_ix (kIx (K := K) (w := w)) (pv 1) (pv 4) (fun _ _ => rfl)) pe_str rfl) (pss_one (ps_asg (pe_tup (pa_cons pe_str (pa_cons pe_str (pa_cons (pe_ix (kIx (K := K) (w := w)) (pv 0) (pv 4) (fun _ _ => rfl)) (pa_cons (pe_ix (kIx (K := K) (w := w)) (pv 2) pe_int (fun _ _ => rfl)) pa_nil))))) (pg_sub (pv 2) pe_int set_list))) (pss_cons (ps_set (i := 2) nd rfl (Or.inl rfl) (pe_op uAdd (pe_lst (pa_cons (pe_ix (kIx (K := K) (w := w)) (pv 0) (pv 4) (fun _ _ => rfl)) pa_nil)) (pv 2)))
      (pss_one (ps_set (i := 3) nd rfl (Or.inl rfl) (pe_op uAdd (pe_lst (pa_cons (pe_ix (kIx (K := K) (w := w)) (pv 1) (pv 4) (fun _ _ => rfl)) pa_nil)) (pv 3)))))))))
      (pss_one (ps_ret (pe_tup (pa_cons (pv 2) (pa_cons (pv 3) pa_nil)))))))), ?_⟩
  obtain ⟨us', vl, rfl⟩ : ∃ us' vl, us = us' ++ [vl] := by
    rcases List.eq_nil_or_concat us with h | ⟨a, b, h⟩
    · rw [h, hll] at hlen; simp at hlen
    · exact ⟨a, b, by rw [h]; simp⟩
  have hus : us'.length = q.2.length := by rw [hll] at hlen; simp at hlen; omega
  have hvl : TmAt H (from_ q q.2.length).1 vl := by
    obtain ⟨v, hv, ht⟩ := hA.get' (from_ls (Nat.le_refl q.2.length))
    rw [← hus, List.getElem?_append_right (Nat.le_refl _), Nat.sub_self] at hv
    cases hv
    exact ht
  refine ⟨_, rfl, _, rfl, _, rfl, .inl ⟨pf, _, rfl, SqL.of hpf, fun pt hpt => ?_⟩⟩
  rw [cut_last]
  refine ⟨z0, fun pl hpl => ?_⟩
  have hptl : pt ≠ pl := ne_of_none (upd_same (H := H) (o := .lst [vl])) hpl
  have hHl : H pl = none := by
    cases e : H pl with
    | none => rfl
    | some o => rw [upd_ne hptl.symm] at hpl; rw [e] at hpl; cases hpl
  have s0 : Same H (upd (upd H pt (.lst [vl])) pl (.lst [])) := same_upd (same_upd (Same.refl _) hpt) hHl
  refine ⟨_, rfl, _, _, rfl, .inl ⟨_, SqL.of (s0 _ _ hps), rfl⟩, _, _, rfl, rfl, _, rfl, _, rfl, _, _, rfl, ⟨?_, ?_, by decide, by decide⟩, ?_⟩
  · simp only [List.length_map, hsl]; omega
  · simp only [List.length_map, hsl]; omega
  have en : ((((wds (sg q)).length : Nat) : Int) - 1 - -1).toNat = q.2.length := by simp only [List.length_map, hsl]; omega
  have eh : ((((wds (sg q)).length : Nat) : Int) - 1) = (q.2.length : Int) - 1 := by simp only [List.length_map, hsl]
  rw [en, eh]
  refine for_down (n := q.2.length) (fun i σ H' => ∃ (x : Option V) (pt pl : Addr), σ = [some (.ref pf), some (.ref ps), some (.ref pt), some (.ref pl), x] ∧ Same H H' ∧ H pt = none ∧ H pl = none ∧ pt ≠ pl ∧ Trs H' pt (ls (fr (from_ q (q.2.length - i)).1 (from_ q (q.2.length - i)).2)) ∧ H' pl = some (.lst (wds (sg (fr (from_ q (q.2.length - i)).1 (from_ q (q.2.length - i)).2))))) ?_ ?_ ?_
  · refine ⟨none, pt, pl, rfl, s0, hpt, hHl, hptl, ?_, ?_⟩
    · rw [Nat.sub_zero, from_last]
      exact ⟨[vl], by rw [upd_ne hptl, upd_same], .cons (hvl.mono (BU.tups_of s0)) .nil⟩
    · rw [Nat.sub_zero, from_last]
      exact upd_same
  · rintro i σ H' hi ⟨x, pt, pl, rfl, sm, hpt, hHl, hptl, ⟨vs, ht, hT⟩, hL⟩
    obtain ⟨j, hj⟩ : ∃ j, q.2.length - i = j + 1 := ⟨q.2.length - i - 1, by omega⟩
    have hj2 : q.2.length - (i + 1) = j := by omega
    have hjk : (q.2.length : Int) - 1 - (i : Int) = (j : Int) := by omega
    have hjl : j < q.2.length := by omega
    rw [hj] at hT hL
    rw [hj2]
    have hfa := from_at hjl
    generalize hb : from_ q (j + 1) = qb at hT hL hfa
    generalize hsb : q.2[j] = sb at hfa
    have hsi : (sg q)[j]? = some sb.1 := by unfold sg; rw [List.getElem?_map, List.getElem?_eq_getElem hjl, hsb]; rfl
    have hat : atI (wds (sg q)) (j : Int) = some (.str (tx sb.1)) := atI_nat (by rw [List.getElem?_map, hsi]; rfl)
    obtain ⟨va, hva, ha⟩ := hA.get' (from_ls (q := q) (i := j) (by omega))
    have ha := ha.mono (BU.tups_of sm)
    have haa : atI (us' ++ [vl]) (j : Int) = some va := atI_nat hva
    have hfl := (fr_md qb.2 qb.1).2.1
    have hql : qb.2.length ≤ q.2.length := by
      have h1 := congrArg List.length hfa
      have h2 : (from_ q j).2.length ≤ q.2.length := by
        cases j with
        | zero => exact Nat.le_refl _
        | succ n => show (q.2.drop (n + 1)).length ≤ _; rw [List.length_drop]; omega
      rw [List.length_cons] at h1
      omega
    refine ⟨_, ?_, fun _ _ h => h⟩
    show tIfS _ _ _ _ [some (.ref pf), some (.ref ps), some (.ref pt), some (.ref pl), some (.int ((q.2.length : Int) - 1 - (i : Int)))] H'
    rw [hjk]
    refine ⟨_, rfl, _, rfl, .inl ⟨ps, _, _, _, rfl, rfl, SqL.of (sm _ _ hps), hat, .inl ⟨rfl, _, rfl, ?_⟩⟩⟩
    rw [K10.eq_lit (l := wColon) (by decide +kernel)]
    by_cases hk : sb.1 = wColon
    · rw [decide_eq_true hk]
      have hfa' : (from_ q j).2 = (wColon, qb.1) :: qb.2 := by rw [hfa, hk]
      rw [hfa', fr_pos]
      generalize hg : fr qb.1 qb.2 = g at hT hL
      obtain ⟨v0, vs', rfl, h0, hT'⟩ : ∃ v0 vs', vs = v0 :: vs' ∧ TmAt H' g.1 v0 ∧ BU.All2 (TmAt H') (g.2.map (·.2)) vs' := by
        cases hT with
        | cons h t => exact ⟨_, _, rfl, h, t⟩
      refine ifT rfl ?_
      refine ⟨_, rfl, _, rfl, .inl ⟨pf, _, _, _, rfl, rfl, SqL.of (sm _ _ hpf), haa, ?_⟩⟩
      refine ⟨_, rfl, .inl ⟨pt, _, 0, v0, rfl, rfl, SqL.of ht, atI_nat (j := 0) rfl, z4, fun p hp => ?_⟩⟩
      have s1 := same_new hp (.tup [.str "two", .str ":", va, v0])
      refine ⟨_, rfl, pt, _, 0, 0, rfl, rfl, s1 _ _ ht, ix_zero _ _, ?_⟩
      have tl := tups_lst (ys := .ref p :: vs') (s1 _ _ ht)
      have tt := (BU.tups_of s1).trans tl
      refine ⟨_, pt, pl, rfl, same_upd (sm.trans s1) hpt, hpt, hHl, hptl, ⟨.ref p :: vs', upd_same, .cons (.two (s := wColon) ?_ (ha.mono tt) (h0.mono tt)) (hT'.imp fun _ _ h => h.mono tt)⟩, ?_⟩
      · have e : (":" : Str) = tx wColon := by decide +kernel
        rw [← e]
        exact tl _ _ upd_same
      · rw [upd_ne hptl.symm]; exact s1 _ _ hL
    · rw [decide_eq_false hk]
      rw [hfa, fr_neg hk]
      have hm : mp fr ((sb.1, qb.1) :: qb.2) = (sb.1, (fr qb.1 qb.2).1) :: (fr qb.1 qb.2).2 := rfl
      rw [hm]
      generalize hg : fr qb.1 qb.2 = g at hT hL hfl
      have hvl2 := hT.len
      refine ifF (by decide) ?_
      have hvs : vs.length ≤ 200 := by
        rw [← hvl2]
        unfold ls
        rw [List.length_cons, List.length_map]
        omega
      refine ⟨_, rfl, _, rfl, .inl ⟨pf, _, _, _, rfl, rfl, SqL.of (sm _ _ hpf), haa, z1, fun p hp => ?_⟩⟩
      have s1 := same_new hp (.lst [va])
      refine ⟨_, rfl, .inr (.inr ⟨p, pt, _, _, rfl, rfl, upd_same, s1 _ _ ht, ?_, fun pn hpn => ?_⟩)⟩
      · have : (1000 : Nat) < sizeLine := by decide
        simp only [List.length_cons, List.length_nil]; omega
      have s2 := same_new hpn (.lst ([va] ++ vs))
      have hHpn : H pn = none := (sm.trans s1).free hpn
      have hLL := (s1.trans s2) _ _ hL
      have hpnl : pn ≠ pl := (ne_of_none (s1 _ _ hL) hpn).symm
      have s12 := s1.trans s2
      have hpn2 : (upd (upd H' p (.lst [va])) pn (.lst ([va] ++ vs))) pn = some (.lst ([va] ++ vs)) := upd_same
      generalize upd (upd H' p (.lst [va])) pn (.lst ([va] ++ vs)) = H2 at s12 hLL hpn2 ⊢
      refine ⟨_, rfl, _, rfl, .inl ⟨ps, _, _, _, rfl, rfl, SqL.of (s12 _ _ (sm _ _ hps)), hat, z1, fun p3 hp3 => ?_⟩⟩
      have s3 := same_new hp3 (.lst [.str (tx sb.1)])
      refine ⟨_, rfl, .inr (.inr ⟨p3, pl, _, _, rfl, rfl, upd_same, s3 _ _ hLL, ?_, fun p4 hp4 => ?_⟩)⟩
      · have : (1000 : Nat) < sizeLine := by decide
        simp only [List.length_cons, List.length_nil, List.length_map, sg]; omega
      have s4 := s12.trans (s3.trans (same_new hp4 (.lst ([.str (tx sb.1)] ++ wds (sg g)))))
      refine ⟨_, pn, p4, rfl, sm.trans s4, hHpn, (sm.trans (s12.trans s3)).free hp4, ne_of_none (s3 _ _ hpn2) hp4, ⟨_, (s3.trans (same_new hp4 _)) _ _ hpn2, ?_⟩, ?_⟩
      · exact .cons (ha.mono (BU.tups_of s4)) (hT.imp fun _ _ h => h.mono (BU.tups_of s4))
      · rw [upd_same]; rfl
  · rintro σ H' ⟨x, pt, pl, rfl, sm, hpt, hHl, hptl, hT, hL⟩
    rw [Nat.sub_self] at hT hL
    refine ⟨_, rfl, _, rfl, z2, fun r hr => ?_⟩
    have s1 := same_new hr (.tup [.ref pt, .ref pl])
    exact qq _ r pt pl (sm.trans s1) upd_same (hT.same s1) (s1 _ _ hL)
end
end RD
set_option maxHeartbeats 4000000
namespace RD
open PySem L2
seal PE PT PW PA PS PSs PTs PI PG PGs PO PEX PSX
abbrev s_law_applied : Stmt := top 43
theorem sc_law_applied : FnScope ["_law_things", "_law_signs", "_law_last_here", "_law_found", "_law_left", "_law_ahead", "_law_k", "_law_one", "_law_word"] ["_law_things", "_law_signs", "_law_last_here"] (defScope s_law_applied) := ⟨rfl, rfl, rfl, by decide +kernel, rfl, by decide +kernel, by decide +kernel⟩
def lm1 (L : Lt → Tm) : Lt → Lr → Tm
  | x, [] => L x
  | x, _ :: _ => .name x.nm
def lm2 (L : Lt → Tm) : Lt → Lr → List (Wd × (List Wd × Tm))
  | _, [] => []
  | _, (s, y) :: l => (s, (y.ah, lm1 L y l)) :: lm2 L y l
def grpG (ah : List Wd) (a : Tm) : List (Wd × (List Wd × Tm)) → List (List Wd × Tm)
  | [] => [(ah, a)]
  | (s, (ah', b)) :: l => if s = wBang then grpG ah (.do_ a b) l else (ah, a) :: grpG ah' b l
def sgnG : List (Wd × (List Wd × Tm)) → List Wd
  | [] => []
  | (s, _) :: l => if s = wBang then sgnG l else s :: sgnG l
theorem lm2_len (L : Lt → Tm) : ∀ (x : Lt) (l : Lr), (lm2 L x l).length = l.length
  | _, [] => rfl
  | _, (s, y) :: l => by simp [lm2, lm2_len L y l]
def lmAt (L : Lt → Tm) (x : Lt) (l : Lr) (i : Nat) (y : Lt) : Tm := if i = l.length then L y else .name y.nm
theorem lm2_at (L : Lt → Tm) : ∀ (x : Lt) (l : Lr) (i : Nat) (s : Wd) (y : Lt), l[i]? = some (s, y) → (lm2 L x l)[i]? = some (s, (y.ah, lmAt L x l (i + 1) y))
  | x, [], i, s, y, h => by cases h
  | x, (s', y') :: l, 0, s, y, h => by
    cases h
    show some _ = _
    congr 3
    cases l with
    | nil => rfl
    | cons p l => show Tm.name _ = _; unfold lmAt; rw [if_neg (by simp only [List.length_cons]; omega)]
  | x, (s', y') :: l, i + 1, s, y, h => by
    have h' : l[i]? = some (s, y) := h
    have := lm2_at L y' l i s y h'
    show (lm2 L y' l)[i]? = _
    rw [this]
    unfold lmAt
    simp only [List.length_cons, Nat.add_right_cancel_iff]
theorem lm2_mem {L : Lt → Tm} : ∀ (x : Lt) (l : Lr) (e : Wd × (List Wd × Tm)), e ∈ lm2 L x l → ∃ p ∈ l, e.2.1 = p.2.ah
  | _, [], e, h => by cases h
  | _, (s, y) :: l, e, h => by
    rcases List.mem_cons.mp h with rfl | h
    · exact ⟨(s, y), List.mem_cons_self .., rfl⟩
    · obtain ⟨p, hp, e'⟩ := lm2_mem y l e h
      exact ⟨p, List.mem_cons_of_mem _ hp, e'⟩
theorem lm1_at (L : Lt → Tm) (x : Lt) (l : Lr) : lm1 L x l = lmAt L x l 0 x := by
  cases l with
  | nil => rfl
  | cons p l => show Tm.name x.nm = _; unfold lmAt; rw [if_neg (by simp)]
def LtAt (H : Hp) (x : Lt) (r : V) : Prop := ∃ q la, r = .ref q ∧ H q = some (.tup [.ref la, .str (tx x.nm)]) ∧ H la = some (.lst (wds x.ah))
def ThsAt (H : Hp) (p : Addr) (xs : List Lt) : Prop := ∃ rs, H p = some (.lst rs) ∧ BU.All2 (LtAt H) xs rs
theorem ThsAt.same {H H' : Hp} {p : Addr} {xs : List Lt} (h : ThsAt H p xs) (s : Same H H') : ThsAt H' p xs := by
  obtain ⟨rs, h1, h2⟩ := h
  refine ⟨rs, s _ _ h1, h2.imp ?_⟩
  rintro x r ⟨q, la, rfl, e1, e2⟩
  exact ⟨q, la, rfl, s _ _ e1, s _ _ e2⟩
def AhAt (H : Hp) (ah : List Wd) (r : V) : Prop := ∃ la, r = .ref la ∧ H la = some (.lst (wds ah))
abbrev xsOf (x : Lt) (l : Lr) : List Lt := x :: l.map (·.2)
abbrev ssOf (l : Lr) : List Wd := l.map (·.1)
def lastT (last : Option Tm) (y : Lt) : Tm := last.getD (.name y.nm)
def wrapG (g : List Wd × Tm) : Tm := ones g.1 g.2
theorem all2_set {α β : Type} {R : α → β → Prop} {xs : List α} {ys : List β} (h : BU.All2 R xs ys) {x : α} {y : β} (hx : R x y) : ∀ k : Nat, BU.All2 R (xs.set k x) (ys.set k y) := by
  induction h with
  | nil => intro k; exact .nil
  | cons h t ih =>
    intro k
    cases k with
    | zero => exact .cons hx t
    | succ k => exact .cons h (ih k)
theorem set_mid {α : Type} (A B : List α) (t u : α) : (A ++ t :: B).set A.length u = A ++ u :: B := by simp
theorem take_one' {α : Type} {A : List α} {k : Nat} {t : α} (h : A[k]? = some t) : A.take (k + 1) = A.take k ++ [t] := take_one h
theorem foldl_ones {w : Wd} (a : Tm) : ∀ n : Nat, (List.replicate n w).foldl (fun t w => Tm.one w t) a = ones (List.replicate n w) a
  | 0 => rfl
  | n + 1 => by
    have ih := foldl_ones (w := w) a n
    rw [List.replicate_succ', List.foldl_append, ih, ← List.replicate_succ']
    rfl
theorem cut_at {xs : List V} {k : Nat} (h : k < xs.length) : cutV xs (some (0 + ((k + 1 : Nat) : Int) - 1)) (some (0 + ((k + 1 : Nat) : Int))) = [xs[k]] := by
  have e1 : HT.sIx xs.length 0 (some (0 + ((k + 1 : Nat) : Int) - 1)) = k := by unfold HT.sIx; simp; rw [if_neg (by omega)]; omega
  have e2 : HT.sIx xs.length xs.length (some (0 + ((k + 1 : Nat) : Int))) = k + 1 := by unfold HT.sIx; simp; rw [if_neg (by omega)]; omega
  unfold cutV
  rw [e1, e2, List.drop_eq_getElem_cons h, show k + 1 - k = 1 by omega]
  rfl
theorem TmAt.not_non {H : Hp} {t : Tm} {v : V} (h : TmAt H t v) : v ≠ .non := by
  obtain ⟨a, rfl⟩ := h.ref
  intro e; cases e
theorem grp_all : ∀ (l : List (Wd × (List Wd × Tm))) (ah : List Wd) (a : Tm) (p : List Wd → Prop), p ah → (∀ x ∈ l, p x.2.1) → ∀ g ∈ grpG ah a l, p g.1
  | [], ah, a, p, h, _, g, hg => by
    have : g = (ah, a) := by simpa [grpG] using hg
    rw [this]; exact h
  | (s, (ah', b)) :: l, ah, a, p, h, hl, g, hg => by
    have hl' : ∀ x ∈ l, p x.2.1 := fun x hx => hl x (List.mem_cons_of_mem _ hx)
    unfold grpG at hg
    split at hg
    · exact grp_all l ah _ p h hl' g hg
    · rcases List.mem_cons.mp hg with rfl | hg
      · exact h
      · exact grp_all l ah' b p (hl (s, (ah', b)) (List.mem_cons_self ..)) hl' g hg
theorem grpG_len : ∀ (l : List (Wd × (List Wd × Tm))) (ah : List Wd) (a : Tm), (grpG ah a l).length ≤ l.length + 1
  | [], ah, a => Nat.le_refl _
  | (s, (ah', b)) :: l, ah, a => by
    unfold grpG
    split
    · have := grpG_len l ah (.do_ a b); simp only [List.length_cons]; omega
    · have := grpG_len l ah' b; simp only [List.length_cons]; omega
section
variable {P : Program} {w : World} {K : PySem.W.Frag} {mg : Str → Option Value} {base : Heap} {f : Addr} {fd : FuncData}
def spApp : Sp := fun vs H Q _ => ∃ (pt ps : Addr) (lv : V) (x : Lt) (l : Lr) (last : Option Tm), vs = [.ref pt, .ref ps, lv] ∧ ThsAt H pt (xsOf x l) ∧ H ps = some (.lst (wds (ssOf l))) ∧ Lrok x l ∧ l.length ≤ 100 ∧ ((lv = .non ∧ last = none) ∨ ∃ t, TmAt H t lv ∧ last = some t) ∧
  ∀ H' r pf pl, Same H H' → H' r = some (.tup [.ref pf, .ref pl]) → Trs H' pf ((grpG x.ah (lm1 (lastT last) x l) (lm2 (lastT last) x l)).map wrapG) → H' pl = some (.lst (wds (sgnG (lm2 (lastT last) x l)))) → Q (.ref r) H'
theorem ok_law_applied (F : Fun K "_law_applied" "_law_applied" s_law_applied f fd) (B : NoG mg) : FnOk P w K mg base CX0 1 f fd ["_law_things", "_law_signs", "_law_last_here"] spApp := by
  refine F.ok sc_law_applied (fun vs H Q E h => ?_) (fun cdv A outer s H vs Q E hr h => ?_)
  · obtain ⟨pt, ps, lv, x, l, last, rfl, _⟩ := h
    rfl
  obtain ⟨pt, ps, lv, x, l, last, rfl, ⟨rs, hpt, hA⟩, hps, hw, hl, hlast, qq⟩ := h
  have nd := sc_law_applied.nd
  have hu := hr.units0
  have z0 : (0 : Nat) ≤ sizeLine := by decide
  have z2 : (2 : Nat) ≤ sizeLine := by decide
  have z3 : (3 : Nat) ≤ sizeLine := by decide
  have zB : (1000 : Nat) < sizeLine := by decide
  have hrl : rs.length = l.length + 1 := by rw [← hA.len]; simp
  generalize hG : grpG x.ah (lm1 (lastT last) x l) (lm2 (lastT last) x l) = G at qq
  generalize hSG : sgnG (lm2 (lastT last) x l) = SG at qq
  refine ⟨_, (pss_cons (ps_set (i := 3) nd rfl (Or.inl rfl) (pe_lst pa_nil))
      (pss_cons (ps_set (i := 4) nd rfl (Or.inl rfl) (pe_lst pa_nil))
      (pss_cons (ps_set (i := 5) nd rfl (Or.inl rfl) (pe_lst pa_nil))
      (pss_cons (ps_for PassesOwn.never rfl (pi_range1 rfl B.range_ (pa_cons (pe_callB (k_len (K := K)) rfl B.len_ bt_len (pa_cons (pv 0) pa_nil)) pa_nil)) (pg_name (i := 6) nd rfl (Or.inl rfl)) (pss_cons (ps_set (i := 7) nd rfl (Or.inl rfl) (pe_tup (pa_cons pe_str (pa_cons (pe_ix (kIx (K := K) (w := w)) (pe_ix (kIx (K := K) (w := w)) (pv 0) (pv 6) (fun _ _ => rfl)) pe_int (fun _ _ => rfl)) pa_nil))))
      (pss_cons (ps_cut (ps_if (PW.pt (pw_and (pt_cmpR (kEq (K := K) hu) (pe_op uAdd (pv 6) pe_int) (pe_callB (k_len (K := K)) rfl B.len_ bt_len (pa_cons (pv 0) pa_nil)) rfl) (pw_and1 (pt_cmpR op_notN (pv 2) pe_non rfl)))) (pss_one (ps_set (i := 7) nd rfl (Or.inl rfl) (pv 2))) pss_nil))
      (pss_one (ps_cut (ps_if (PW.pt (pw_and (pt_cmpR op_gt (pv 6) pe_int rfl) (pw_and1 (pt_cmpR (kEq (K := K) hu) (pe_ix (kIx (K := K) (w := w)) (pv 1) (pe_op op_sub (pv 6) pe_int) (fun _ _ => rfl)) pe_str rfl)))) (pss_one (ps_asg (pe_tup (pa_cons pe_str (pa_cons (pe_ix (kIx (K := K) (w := w)) (pv 3) (pe_un un_neg pe_int) (fun _ _ => rfl)) (pa_cons (pv 7) pa_nil)))) (pg_sub (pv 3) (pe_un un_neg pe_int) set_list))) (pss_cons (ps_expr (k_bm (K := K) PySem.F.plainAttrs_list PySem.F.slot_list_append PySem.F.type_list_append mt_append (pv 3) (pa_cons (pv 7) pa_nil)))
      (pss_cons (ps_expr (k_bm (K := K) PySem.F.plainAttrs_list PySem.F.slot_list_append PySem.F.type_list_append mt_append (pv 5) (pa_cons (pe_ix (kIx (K := K) (w := w)) (pe_ix (kIx (K := K) (w := w)) (pv 0) (pv 6) (fun _ _ => rfl)) pe_int (fun _ _ => rfl)) pa_nil)))
      (pss_one (ps_set (i := 4) nd rfl (Or.inl rfl) (pe_op uAdd (pv 4) (pe_op uMul (pe_slice (kSl (K := K)) (pv 1) (po_some (pe_op op_sub (pv 6) pe_int)) (po_some (pv 6))) (pe_callTy call_int_txt rfl B.int_ bt_int (pa_cons (pe_cmpR op_gt (pv 6) pe_int rfl) pa_nil))))))))))))))
      (pss_cons (ps_for PassesOwn.never rfl (pi_range1 rfl B.range_ (pa_cons (pe_callB (k_len (K := K)) rfl B.len_ bt_len (pa_cons (pv 3) pa_nil)) pa_nil)) (pg_name (i := 6) nd rfl (Or.inl rfl)) (pss_one (ps_for PassesOwn.never rfl (k_ilist (K := K) (pe_ix (kIx (K := K) (w := w)) (pv 5) (pv 6) (fun _ _ => rfl))) (pg_name (i := 8) nd rfl (Or.inl rfl)) (pss_one (ps_asg (pe_tup (pa_cons pe_str (pa_cons (pv 8) (pa_cons (pe_ix (kIx (K := K) (w := w)) (pv 3) (pv 6) (fun _ _ => rfl)) pa_nil)))) (pg_sub (pv 3) (pv 6) set_list))))))
      (pss_one (ps_ret (pe_tup (pa_cons (pv 3) (pa_cons (pv 4) pa_nil)))))))))), ?_⟩
  refine ⟨z0, fun pf hpf => ⟨z0, fun pl hpl => ⟨z0, fun pa hpa => ?_⟩⟩⟩
  have n1 : pf ≠ pl := ne_of_none (upd_same (H := H) (o := .lst [])) hpl
  have hHl : H pl = none := (same_new hpf (.lst [])).free hpl
  have s01 := (same_new hpf (.lst [])).trans (same_new hpl (.lst []))
  have hHa : H pa = none := s01.free hpa
  have n2 : pf ≠ pa := ne_of_none ((same_new hpl (.lst [])) _ _ upd_same) hpa
  have n3 : pl ≠ pa := ne_of_none (upd_same (H := upd H pf (.lst [])) (o := .lst [])) hpa
  have s0 := s01.trans (same_new hpa (.lst []))
  have f0 : (upd (upd (upd H pf (.lst [])) pl (.lst [])) pa (.lst [])) pf = some (.lst []) := by rw [upd_ne n2, upd_ne n1, upd_same]
  have f1 : (upd (upd (upd H pf (.lst [])) pl (.lst [])) pa (.lst [])) pl = some (.lst []) := by rw [upd_ne n3, upd_same]
  have f2 : (upd (upd (upd H pf (.lst [])) pl (.lst [])) pa (.lst [])) pa = some (.lst []) := upd_same
  generalize upd (upd (upd H pf (.lst [])) pl (.lst [])) pa (.lst []) = H0 at s0 f0 f1 f2 ⊢
  refine ⟨_, rfl, _, _, rfl, .inl ⟨_, SqL.of (s0 _ _ hpt), rfl⟩, _, rfl, by omega, ?_, ?_⟩
  · rw [hrl]; omega
  rw [show (((rs.length : Nat) : Int)).toNat = l.length + 1 by rw [hrl]; omega]
  refine for_range (n := l.length + 1) (lo := 0) (fun i σ H' => ∃ (x6 x7 : Option V) (pl' : Addr) (fs as : List V) (S : List Wd), σ = [some (.ref pt), some (.ref ps), some lv, some (.ref pf), some (.ref pl'), some (.ref pa), x6, x7, none] ∧ Same H H' ∧ H pl' = none ∧ pl' ≠ pf ∧ pl' ≠ pa ∧ H' pf = some (.lst fs) ∧ H' pa = some (.lst as) ∧ H' pl' = some (.lst (wds S)) ∧ S.length ≤ i ∧ fs.length ≤ i ∧ as.length ≤ i ∧
    ((i = 0 ∧ fs = [] ∧ as = [] ∧ S = []) ∨ ∃ (k : Nat) (D : List (List Wd × Tm)) (ah : List Wd) (a : Tm), i = k + 1 ∧ BU.All2 (TmAt H') ((D ++ [(ah, a)]).map (·.2)) fs ∧ BU.All2 (AhAt H) ((D ++ [(ah, a)]).map (·.1)) as ∧ D ++ grpG ah a ((lm2 (lastT last) x l).drop k) = G ∧ S ++ sgnG ((lm2 (lastT last) x l).drop k) = SG)) ?_ ?_ ?_
  · exact ⟨none, none, pl, [], [], [], rfl, s0, hHl, n1.symm, n3, f0, f2, f1, Nat.le_refl _, Nat.le_refl _, Nat.le_refl _, .inl ⟨rfl, rfl, rfl, rfl⟩⟩
  · rintro i σ H' hi ⟨x6, x7, pl', fs, as, S, rfl, sm, hHl', m1, m2, hf, ha, hL, b1, b2, b3, hI⟩
    have hi' : i < (xsOf x l).length := by simp only [List.length_cons, List.length_map]; omega
    obtain ⟨y, hy⟩ : ∃ y, (xsOf x l)[i]? = some y := ⟨_, List.getElem?_eq_getElem hi'⟩
    obtain ⟨v, hv, q, la, rfl, e1, e2⟩ := hA.get' hy
    have hat : atI rs (0 + (i : Int)) = some (.ref q) := by rw [Int.zero_add]; exact atI_nat hv
    refine ⟨_, rfl, _, rfl, .inl ⟨pt, _, _, _, rfl, rfl, SqL.of (sm _ _ hpt), hat, .inr (.inl ⟨q, _, 1, _, rfl, rfl, SqT.of (sm _ _ e1), rfl, z2, fun p1 hp1 => ?_⟩)⟩⟩
    have s1 := same_new hp1 (.tup [.str "name", .str (tx y.nm)])
    have hn1 : TmAt (upd H' p1 (.tup [.str "name", .str (tx y.nm)])) (.name y.nm) (.ref p1) := .name upd_same
    have hHp1 : H p1 = none := sm.free hp1
    have sm1 := sm.trans s1
    have hf1 := s1 _ _ hf
    have ha1 := s1 _ _ ha
    have hL1 := s1 _ _ hL
    have tp1 := BU.tups_of s1
    generalize upd H' p1 (.tup [.str "name", .str (tx y.nm)]) = H1 at s1 hn1 sm1 hf1 ha1 hL1 tp1 ⊢
    refine ⟨fun σ' H'' => H1 = H'' ∧ ∃ vo, σ' = [some (.ref pt), some (.ref ps), some lv, some (.ref pf), some (.ref pl'), some (.ref pa), some (.int (0 + (i : Int))), some vo, none] ∧ TmAt H1 (lmAt (lastT last) x l i y) vo, ?_, ?_⟩
    · refine ⟨_, rfl, .inl ⟨_, _, rfl, rfl, _, rfl, _, _, rfl, .inl ⟨_, SqL.of (sm1 _ _ hpt), rfl⟩, .inl ⟨rfl, _, rfl, ?_⟩⟩⟩
      by_cases hil : i = l.length
      · refine ifT (decide_eq_true (show V.int (0 + (i : Int) + 1) = V.int ((rs.length : Nat) : Int) from congrArg V.int (by rw [hrl]; omega))) ⟨_, rfl, rfl, _, rfl, ?_⟩
        rcases hlast with ⟨rfl, rfl⟩ | ⟨t, htl, rfl⟩
        · exact ifF (by decide) ⟨rfl, .ref p1, rfl, by unfold lmAt; rw [if_pos hil]; exact hn1⟩
        · refine ifT (by rw [decide_eq_false htl.not_non]; rfl) ?_
          exact ⟨_, rfl, rfl, lv, rfl, by unfold lmAt; rw [if_pos hil]; exact htl.mono (BU.tups_of sm1)⟩
      · refine ifF (fun h => hil (by have h := of_decide_eq_true h; injection h with h; rw [hrl] at h; omega)) ?_
        exact ifF (by decide) ⟨rfl, .ref p1, rfl, by unfold lmAt; rw [if_neg hil]; exact hn1⟩
    rintro σ' H'' ⟨rfl, vo, rfl, hvo⟩
    refine ⟨_, ?_, fun _ _ h => h⟩
    have put : ∀ (c : Int) (zs : List Wd), (c = 0 ∧ zs = []) ∨ (c = 1 ∧ ∃ k0 s, i = k0 + 1 ∧ (ssOf l)[k0]? = some s ∧ zs = [s]) → ∀ (cc : Bool), (c = if cc = true then 1 else 0) → True := fun _ _ _ _ _ => trivial
    rcases hI with ⟨rfl, rfl, rfl, rfl⟩ | ⟨k, D, ah, a, rfl, hD, hah, eG, eS⟩
    · have hy0 : y = x := by cases hy; rfl
      subst hy0
      refine ⟨_, rfl, _, _, rfl, rfl, _, rfl, ifF (by decide) (ifF (by decide) ?_)⟩
      refine ⟨_, rfl, .inl ⟨rfl, _, SqL.of hf1⟩, _, rfl, pf, _, _, rfl, rfl, hf1, by simp only [List.length_nil]; omega, ?_⟩
      have t2 := tups_lst (ys := [] ++ [vo]) hf1
      have sm2 := same_upd (o := .lst ([] ++ [vo])) sm1 hpf
      have ha2 : (upd H1 pf (.lst ([] ++ [vo]))) pa = some (.lst []) := by rw [upd_ne n2.symm]; exact ha1
      have hL2 : (upd H1 pf (.lst ([] ++ [vo]))) pl' = some (.lst (wds [])) := by rw [upd_ne m1]; exact hL1
      have hf2 : (upd H1 pf (.lst ([] ++ [vo]))) pf = some (.lst ([] ++ [vo])) := upd_same
      generalize upd H1 pf (.lst ([] ++ [vo])) = H2 at t2 sm2 ha2 hL2 hf2 ⊢
      refine ⟨_, rfl, .inl ⟨rfl, _, SqL.of ha2⟩, _, rfl, _, rfl, .inl ⟨pt, _, _, _, rfl, rfl, SqL.of (sm2 _ _ hpt), hat, .inr (.inl ⟨q, _, 0, _, rfl, rfl, SqT.of (sm2 _ _ e1), rfl, ?_⟩)⟩⟩
      refine ⟨pa, _, _, rfl, rfl, ha2, by simp only [List.length_nil]; omega, ?_⟩
      have t3 := tups_lst (ys := [] ++ [.ref la]) ha2
      have sm3 := same_upd (o := .lst ([] ++ [.ref la])) sm2 hHa
      have hL3 : (upd H2 pa (.lst ([] ++ [.ref la]))) pl' = some (.lst (wds [])) := by rw [upd_ne m2]; exact hL2
      have hf3 : (upd H2 pa (.lst ([] ++ [.ref la]))) pf = some (.lst ([] ++ [vo])) := by rw [upd_ne n2]; exact hf2
      have ha3 : (upd H2 pa (.lst ([] ++ [.ref la]))) pa = some (.lst ([] ++ [.ref la])) := upd_same
      generalize upd H2 pa (.lst ([] ++ [.ref la])) = H3 at t3 sm3 hL3 hf3 ha3 ⊢
      refine ⟨_, rfl, _, rfl, _, rfl, _, _, rfl, rfl, _, rfl, _, rfl, _, rfl, .inl ⟨ps, _, rfl, SqL.of (sm3 _ _ hps), fun p2 hp2 => ?_⟩⟩
      have s4 := same_new hp2 (.lst (cutV (wds (ssOf l)) (some (0 + ((0 : Nat) : Int) - 1)) (some (0 + ((0 : Nat) : Int)))))
      refine ⟨_, rfl, _, _, rfl, rfl, .inl ⟨_, rfl, .inr (.inr ⟨p2, _, _, rfl, rfl, upd_same, by decide, by decide, by simp, fun p3 hp3 => ?_⟩)⟩⟩
      have ez : ((List.replicate (if decide ((0 : Int) < 0 + ((0 : Nat) : Int)) = true then (1 : Int) else 0).toNat (cutV (wds (ssOf l)) (some (0 + ((0 : Nat) : Int) - 1)) (some (0 + ((0 : Nat) : Int))))).flatten : List V) = [] := rfl
      rw [ez]
      have s5 := s4.trans (same_new hp3 (.lst []))
      refine .inr (.inr ⟨pl', p3, _, _, rfl, rfl, s5 _ _ hL3, upd_same, by decide, fun p4 hp4 => ?_⟩)
      have s6 := s5.trans (same_new hp4 (.lst (wds [] ++ [])))
      have tt := t2.trans (t3.trans (BU.tups_of s6))
      refine ⟨_, _, p4, [vo], [.ref la], [], rfl, sm3.trans s6, (sm3.trans s5).free hp4, (ne_of_none (s5 _ _ hf3) hp4).symm, (ne_of_none (s5 _ _ ha3) hp4).symm, s6 _ _ hf3, s6 _ _ ha3, upd_same, Nat.zero_le _, Nat.le_refl _, Nat.le_refl _, .inr ⟨0, [], y.ah, lm1 (lastT last) y l, rfl, .cons ?_ .nil, .cons ⟨la, rfl, e2⟩ .nil, hG, hSG⟩⟩
      rw [lm1_at]
      exact hvo.mono tt
    · obtain ⟨sb, hsb⟩ : ∃ sb, l[k]? = some sb := ⟨_, List.getElem?_eq_getElem (by omega)⟩
      obtain ⟨sn, y'⟩ := sb
      have hyy : y' = y := by
        have : (xsOf x l)[k + 1]? = some y' := by rw [List.getElem?_cons_succ, List.getElem?_map, hsb]; rfl
        rw [hy] at this; cases this; rfl
      subst hyy
      have hl2 := lm2_at (lastT last) x l k sn y' hsb
      have hkl : k < (lm2 (lastT last) x l).length := (List.getElem?_eq_some_iff.mp hl2).1
      have hdr : (lm2 (lastT last) x l).drop k = (sn, (y'.ah, lmAt (lastT last) x l (k + 1) y')) :: (lm2 (lastT last) x l).drop (k + 1) := by
        rw [drop_at hkl]
        congr 1
        have := List.getElem?_eq_getElem hkl
        rw [hl2] at this
        exact (Option.some.inj this).symm
      rw [hdr] at eG eS
      generalize lmAt (lastT last) x l (k + 1) y' = b at hvo eG eS
      have hss : (ssOf l)[k]? = some sn := by rw [List.getElem?_map, hsb]; rfl
      have has : atI (wds (ssOf l)) (0 + ((k + 1 : Nat) : Int) - 1) = some (.str (tx sn)) := by
        rw [show (0 + ((k + 1 : Nat) : Int) - 1) = (k : Int) by omega]
        exact atI_nat (by rw [List.getElem?_map, hss]; rfl)
      refine ⟨_, rfl, _, _, rfl, rfl, _, rfl, ifT (decide_eq_true (by omega)) ?_⟩
      refine ⟨_, rfl, _, rfl, _, _, rfl, rfl, .inl ⟨ps, _, _, _, rfl, rfl, SqL.of (sm1 _ _ hps), has, .inl ⟨rfl, _, rfl, ?_⟩⟩⟩
      rw [K10.eq_lit (l := wBang) (by decide +kernel)]
      have hDl := hD.len
      rw [List.map_append, List.length_append, List.length_map] at hDl
      simp only [List.map_cons, List.map_nil, List.length_cons, List.length_nil] at hDl
      obtain ⟨ds, va, rfl, hD', hva⟩ : ∃ ds va, fs = ds ++ [va] ∧ BU.All2 (TmAt H') (D.map (·.2)) ds ∧ TmAt H' a va := by
        rw [List.map_append] at hD
        obtain ⟨ds, vs, e, h1, h2⟩ := hD.split
        cases h2 with
        | cons h t => cases t; exact ⟨ds, _, e, h1, h⟩
      by_cases hb : sn = wBang
      · rw [decide_eq_true hb]
        rw [grpG, if_pos hb] at eG
        rw [sgnG, if_pos hb] at eS
        refine ifT rfl ?_
        refine ⟨_, rfl, _, rfl, .inl ⟨pf, _, _, _, rfl, rfl, SqL.of hf1, atI_last _ _, ?_⟩⟩
        refine ⟨_, rfl, z3, fun p hp => ?_⟩
        have s2 := same_new hp (.tup [.str "do", va, vo])
        refine ⟨_, rfl, _, rfl, pf, _, _, _, rfl, rfl, s2 _ _ hf1, ixN_last _ _, ?_⟩
        rw [set_last]
        have tl := tups_lst (ys := ds ++ [.ref p]) (s2 _ _ hf1)
        have t12 := (BU.tups_of s2).trans tl
        have tt := tp1.trans t12
        refine ⟨_, _, pl', ds ++ [.ref p], as, S, rfl, same_upd (sm1.trans s2) hpf, hHl', m1, m2, upd_same, ?_, ?_, by omega, ?_, by omega, .inr ⟨k + 1, D, ah, .do_ a b, rfl, ?_, ?_, eG, eS⟩⟩
        · rw [upd_ne n2.symm]; exact s2 _ _ ha1
        · rw [upd_ne m1]; exact s2 _ _ hL1
        · simp only [List.length_append, List.length_cons, List.length_nil] at b2 ⊢; omega
        · rw [List.map_append]
          exact (hD'.imp fun _ _ h => h.mono tt).app (.cons (.do_ (tl _ _ upd_same) (hva.mono tt) (hvo.mono t12)) .nil)
        · rw [List.map_append] at hah ⊢; exact hah
      · rw [decide_eq_false hb]
        rw [grpG, if_neg hb] at eG
        rw [sgnG, if_neg hb] at eS
        refine ifF (by decide) ?_
        refine ⟨_, rfl, .inl ⟨rfl, _, SqL.of hf1⟩, _, rfl, pf, _, _, rfl, rfl, hf1, by omega, ?_⟩
        have t2 := tups_lst (ys := (ds ++ [va]) ++ [vo]) hf1
        have sm2 := same_upd (o := .lst ((ds ++ [va]) ++ [vo])) sm1 hpf
        have ha2 : (upd H1 pf (.lst ((ds ++ [va]) ++ [vo]))) pa = some (.lst as) := by rw [upd_ne n2.symm]; exact ha1
        have hL2 : (upd H1 pf (.lst ((ds ++ [va]) ++ [vo]))) pl' = some (.lst (wds S)) := by rw [upd_ne m1]; exact hL1
        have hf2 : (upd H1 pf (.lst ((ds ++ [va]) ++ [vo]))) pf = some (.lst ((ds ++ [va]) ++ [vo])) := upd_same
        generalize upd H1 pf (.lst ((ds ++ [va]) ++ [vo])) = H2 at t2 sm2 ha2 hL2 hf2 ⊢
        refine ⟨_, rfl, .inl ⟨rfl, _, SqL.of ha2⟩, _, rfl, _, rfl, .inl ⟨pt, _, _, _, rfl, rfl, SqL.of (sm2 _ _ hpt), hat, .inr (.inl ⟨q, _, 0, _, rfl, rfl, SqT.of (sm2 _ _ e1), rfl, ?_⟩)⟩⟩
        refine ⟨pa, _, _, rfl, rfl, ha2, by omega, ?_⟩
        have t3 := tups_lst (ys := as ++ [.ref la]) ha2
        have sm3 := same_upd (o := .lst (as ++ [.ref la])) sm2 hHa
        have hL3 : (upd H2 pa (.lst (as ++ [.ref la]))) pl' = some (.lst (wds S)) := by rw [upd_ne m2]; exact hL2
        have hf3 : (upd H2 pa (.lst (as ++ [.ref la]))) pf = some (.lst ((ds ++ [va]) ++ [vo])) := by rw [upd_ne n2]; exact hf2
        have ha3 : (upd H2 pa (.lst (as ++ [.ref la]))) pa = some (.lst (as ++ [.ref la])) := upd_same
        generalize upd H2 pa (.lst (as ++ [.ref la])) = H3 at t3 sm3 hL3 hf3 ha3 ⊢
        have hks : k < (wds (ssOf l)).length := by rw [List.length_map, List.length_map]; omega
        have hcut := cut_at hks
        have hel : (wds (ssOf l))[k] = .str (tx sn) := by
          have := List.getElem?_eq_getElem hks
          rw [List.getElem?_map, hss] at this
          exact (Option.some.inj this).symm
        rw [hel] at hcut
        refine ⟨_, rfl, _, rfl, _, rfl, _, _, rfl, rfl, _, rfl, _, rfl, _, rfl, .inl ⟨ps, _, rfl, SqL.of (sm3 _ _ hps), fun p2 hp2 => ?_⟩⟩
        rw [hcut]
        have s4 := same_new hp2 (.lst [.str (tx sn)])
        have hc1 : (if decide ((0 : Int) < 0 + ((k + 1 : Nat) : Int)) = true then (1 : Int) else 0) = 1 := if_pos (decide_eq_true (by omega))
        refine ⟨_, rfl, _, _, rfl, rfl, .inl ⟨_, rfl, ?_⟩⟩
        rw [hc1]
        refine .inr (.inr ⟨p2, _, _, rfl, rfl, upd_same, by decide, by decide, by simp; omega, fun p3 hp3 => ?_⟩)
        have ez : ((List.replicate (1 : Int).toNat [V.str (tx sn)]).flatten : List V) = [.str (tx sn)] := rfl
        rw [ez]
        have s5 := s4.trans (same_new hp3 (.lst [.str (tx sn)]))
        refine .inr (.inr ⟨pl', p3, _, _, rfl, rfl, s5 _ _ hL3, upd_same, by simp only [List.length_map, List.length_cons, List.length_nil]; omega, fun p4 hp4 => ?_⟩)
        have s6 := s5.trans (same_new hp4 (.lst (wds S ++ [.str (tx sn)])))
        have t34 := t2.trans (t3.trans (BU.tups_of s6))
        have tt := tp1.trans t34
        refine ⟨_, _, p4, (ds ++ [va]) ++ [vo], as ++ [.ref la], S ++ [sn], rfl, sm3.trans s6, (sm3.trans s5).free hp4, (ne_of_none (s5 _ _ hf3) hp4).symm, (ne_of_none (s5 _ _ ha3) hp4).symm, s6 _ _ hf3, s6 _ _ ha3, ?_, ?_, ?_, ?_, .inr ⟨k + 1, D ++ [(ah, a)], y'.ah, b, rfl, ?_, ?_, ?_, ?_⟩⟩
        · rw [upd_same]; simp [wds]
        · simp only [List.length_append, List.length_cons, List.length_nil]; omega
        · simp only [List.length_append, List.length_cons, List.length_nil] at b2 ⊢; omega
        · simp only [List.length_append, List.length_cons, List.length_nil]; omega
        · rw [List.map_append, List.map_append]
          exact ((hD'.imp fun _ _ h => h.mono tt).app (.cons (hva.mono tt) .nil)).app (.cons (hvo.mono t34) .nil)
        · rw [List.map_append]
          exact hah.app (.cons ⟨la, rfl, e2⟩ .nil)
        · rw [List.append_assoc]; exact eG
        · rw [List.append_assoc]; exact eS
  · rintro σ H' ⟨x6, x7, pl', fs, as, S, rfl, sm, hHl', m1, m2, hf, ha, hL, b1, b2, b3, hI⟩
    rcases hI with ⟨h, _⟩ | ⟨k, D, ah, a, hk, hD, hah, eG, eS⟩
    · omega
    have hk : k = l.length := by omega
    subst hk
    have hdr : (lm2 (lastT last) x l).drop l.length = [] := by rw [← lm2_len (lastT last) x l, List.drop_length]
    rw [hdr] at eG eS
    have eG : D ++ [(ah, a)] = G := eG
    have eS : S = SG := by simpa [sgnG] using eS
    subst eS
    rw [eG] at hD hah
    have hGl : G.length ≤ l.length + 1 := by rw [← hG]; have := grpG_len (lm2 (lastT last) x l) x.ah (lm1 (lastT last) x l); rw [lm2_len] at this; exact this
    have hfl : fs.length = G.length := by rw [← hD.len, List.length_map]
    have hGah : ∀ g ∈ G, ∃ w n, g.1 = List.replicate n w := by
      rw [← hG]
      refine grp_all _ _ _ (fun ah => ∃ w n, ah = List.replicate n w) ?_ ?_
      · obtain ⟨⟨w, n, e, _⟩, _⟩ := hw.1
        exact ⟨w, n, e⟩
      · intro e he
        obtain ⟨p, hp, e2⟩ := lm2_mem _ _ _ he
        obtain ⟨⟨w, n, e3, _⟩, _⟩ := (hw.2 p hp).2
        exact ⟨w, n, by rw [e2, e3]⟩
    refine ⟨_, rfl, _, _, rfl, .inl ⟨_, SqL.of hf, rfl⟩, _, rfl, by omega, by omega, ?_⟩
    rw [show (((fs.length : Nat) : Int)).toNat = G.length by rw [hfl]; omega]
    refine for_range (n := G.length) (lo := 0) (fun i σ H' => ∃ (x6 x8 : Option V) (fs : List V), σ = [some (.ref pt), some (.ref ps), some lv, some (.ref pf), some (.ref pl'), some (.ref pa), x6, x7, x8] ∧ Same H H' ∧ H' pf = some (.lst fs) ∧ H' pa = some (.lst as) ∧ H' pl' = some (.lst (wds S)) ∧ BU.All2 (TmAt H') ((G.take i).map wrapG ++ (G.drop i).map (·.2)) fs) ?_ ?_ ?_
    · exact ⟨_, _, fs, rfl, sm, hf, ha, hL, by simpa using hD⟩
    · rintro i σ H1 hi ⟨y6, y8, fs, rfl, sm1, hf1, ha1, hL1, hF⟩
      have hdg := drop_at hi
      obtain ⟨g, hg⟩ : ∃ g, G[i] = g := ⟨_, rfl⟩
      rw [hg] at hdg
      have hgi : G[i]? = some g := by rw [List.getElem?_eq_getElem hi, hg]
      obtain ⟨va, hva, la, rfl, hla⟩ := hah.get' (i := i) (by rw [List.getElem?_map, hgi]; rfl)
      have hata : atI as (0 + (i : Int)) = some (.ref la) := by rw [Int.zero_add]; exact atI_nat hva
      rw [hdg] at hF
      have htl : ((G.take i).map wrapG).length = i := by rw [List.length_map, List.length_take]; omega
      refine ⟨_, rfl, _, rfl, .inl ⟨pa, _, _, _, rfl, rfl, SqL.of ha1, hata, la, rfl, ⟨_, SqL.of (sm1 _ _ hla)⟩, ?_⟩⟩
      refine for_list (xs := wds g.1) (fun j σ H' => ∃ (x8 : Option V) (fs : List V), σ = [some (.ref pt), some (.ref ps), some lv, some (.ref pf), some (.ref pl'), some (.ref pa), some (.int (0 + (i : Int))), x7, x8] ∧ Same H H' ∧ H' pf = some (.lst fs) ∧ H' pa = some (.lst as) ∧ H' pl' = some (.lst (wds S)) ∧ BU.All2 (TmAt H') ((G.take i).map wrapG ++ (g.1.take j).foldl (fun t w => Tm.one w t) g.2 :: (G.drop (i + 1)).map (·.2)) fs) ?_ ?_ ?_ ?_
      · exact ⟨_, fs, rfl, sm1, hf1, ha1, hL1, hF⟩
      · rintro j σ H2 hj ⟨_, _, _, sm2, _⟩
        exact SqL.of (sm2 _ _ hla)
      · rintro j v σ H2 hv ⟨x8, fs2, rfl, sm2, hf2, ha2, hL2, hF2⟩
        rw [List.getElem?_map] at hv
        obtain ⟨w1, hw1, rfl⟩ := Option.map_eq_some_iff.mp hv
        obtain ⟨vt, hvt, ht⟩ := hF2.get' (i := i) (a := (g.1.take j).foldl (fun t w => Tm.one w t) g.2) (by rw [List.getElem?_append_right (by omega), htl, Nat.sub_self]; rfl)
        have hil : i < fs2.length := (List.getElem?_eq_some_iff.mp hvt).1
        refine ⟨_, rfl, _, rfl, _, rfl, .inl ⟨pf, _, _, _, rfl, rfl, SqL.of hf2, by rw [Int.zero_add]; exact atI_nat hvt, z3, fun p hp => ?_⟩⟩
        have s1 := same_new hp (.tup [.str "one", .str (tx w1), vt])
        refine ⟨_, rfl, _, rfl, pf, _, _, i, rfl, rfl, s1 _ _ hf2, ?_, ?_⟩
        · unfold ixN
          rw [if_pos (by omega), if_pos (by omega)]
          congr 1
          omega
        have tl := tups_lst (ys := fs2.set i (.ref p)) (s1 _ _ hf2)
        have tt := (BU.tups_of s1).trans tl
        refine ⟨_, fs2.set i (.ref p), rfl, same_upd (sm2.trans s1) hpf, upd_same, ?_, ?_, ?_⟩
        · rw [upd_ne n2.symm]; exact s1 _ _ ha2
        · rw [upd_ne m1]; exact s1 _ _ hL2
        · rw [take_one' hw1, List.foldl_append]
          have := all2_set (hF2.imp fun _ _ h => h.mono tt) (x := Tm.one w1 ((g.1.take j).foldl (fun t w => Tm.one w t) g.2)) (y := .ref p) (.one (tl _ _ upd_same) (ht.mono tt)) i
          have e := set_mid ((G.take i).map wrapG) ((G.drop (i + 1)).map (·.2)) ((g.1.take j).foldl (fun t w => Tm.one w t) g.2) (Tm.one w1 ((g.1.take j).foldl (fun t w => Tm.one w t) g.2))
          rw [htl] at e
          rw [e] at this
          exact this
      · rintro σ H2 ⟨x8, fs2, rfl, sm2, hf2, ha2, hL2, hF2⟩
        refine ⟨_, _, fs2, rfl, sm2, hf2, ha2, hL2, ?_⟩
        rw [List.length_map, List.take_length] at hF2
        obtain ⟨w1, n, e⟩ := hGah g (List.mem_of_getElem? hgi)
        rw [e, foldl_ones, ← e] at hF2
        rw [take_one' hgi, List.map_append, List.append_assoc]
        exact hF2
    · rintro σ H1 ⟨y6, y8, fs, rfl, sm1, hf1, ha1, hL1, hF⟩
      rw [List.take_length, List.drop_length, List.map_nil, List.append_nil] at hF
      refine ⟨_, rfl, _, rfl, z2, fun r hr => ?_⟩
      have s1 := same_new hr (.tup [.ref pf, .ref pl'])
      exact qq _ r pf pl' (sm1.trans s1) upd_same ⟨fs, s1 _ _ hf1, hF.imp fun _ _ h => h.mono (BU.tups_of s1)⟩ (s1 _ _ hL1)
end
end RD
namespace RD
open PySem L2
def RelE (p : Wd × Th) (e : Wd × (List Wd × Tm)) : Prop := p.1 = e.1 ∧ p.2.ah = e.2.1 ∧ p.2.rs = some e.2.2
theorem grp_good {r : Rs} {g : List (Wd × (List Wd × Tm))} (h : BU.All2 RelE r g) : (∀ e ∈ g, e.1 = wBang → e.2.1 = []) → ∀ (ah : List Wd) (a : Tm), ∃ q, grp ah a r = some q ∧ ls q = (grpG ah a g).map wrapG ∧ sg q = sgnG g := by
  induction h with
  | nil => intro _ ah a; exact ⟨_, rfl, rfl, rfl⟩
  | @cons p e r g hp t ih =>
    intro hb ah a
    obtain ⟨s, th⟩ := p
    obtain ⟨s', ah', b⟩ := e
    obtain ⟨h1, h2, h3⟩ := hp
    dsimp only at h1 h2 h3
    subst h1
    subst h2
    have hb' := fun e he => hb e (List.mem_cons_of_mem _ he)
    unfold grp grpG sgnG
    rw [h3]
    by_cases hs : s = wBang
    · rw [if_pos hs, if_pos (hb _ (List.mem_cons_self ..) hs), if_pos hs, if_pos hs]
      exact ih hb' ah (.do_ a b)
    · rw [if_neg hs, if_neg hs, if_neg hs]
      obtain ⟨q, e1, e2, e3⟩ := ih hb' th.ah b
      refine ⟨(ones ah a, (s, q.1) :: q.2), by show (grp th.ah b r).map _ = _; rw [e1]; rfl, ?_, ?_⟩
      · rw [List.map_cons, ← e2]; rfl
      · rw [← e3]; rfl
theorem grp_bad : ∀ (r : Rs) (ah : List Wd) (a : Tm), (∃ p ∈ r, (p.1 = wBang ∧ p.2.ah ≠ []) ∨ p.2.rs = none) → grp ah a r = none
  | [], _, _, h => by obtain ⟨p, hp, _⟩ := h; cases hp
  | (s, t) :: r, ah, a, h => by
    unfold grp
    obtain ⟨p, hp, hc⟩ := h
    rcases List.mem_cons.mp hp with rfl | hp
    · rcases hc with ⟨h1, h2⟩ | h3
      · have h1 : s = wBang := h1
        have h2 : t.ah ≠ [] := h2
        rw [if_pos h1, if_neg h2]
      · have h3 : t.rs = none := h3
        rw [h3]
        split
        · split <;> rfl
        · rfl
    · have ih := fun ah a => grp_bad r ah a ⟨p, hp, hc⟩
      split
      · split
        · cases t.rs with
          | none => rfl
          | some b => exact ih _ _
        · rfl
      · cases t.rs with
        | none => rfl
        | some b => show (grp t.ah b r).map _ = none; rw [ih]; rfl
section
variable {L : Lt → Tx} {M : Lt → Tm}
theorem mk1_rs (hL : ∀ y, (L y).t.ah = y.ah ∧ (L y).t.rs = some (M y)) (x : Lt) (l : Lr) : (mk1 L x l).t.ah = x.ah ∧ (mk1 L x l).t.rs = some (lm1 M x l) := by
  cases l with
  | nil => exact hL x
  | cons p l => exact ⟨rfl, rfl⟩
theorem rel_mk (hL : ∀ y, (L y).t.ah = y.ah ∧ (L y).t.rs = some (M y)) : ∀ (x : Lt) (l : Lr), BU.All2 RelE (thsOf (mk2 L x l)) (lm2 M x l)
  | _, [] => .nil
  | _, (_, y) :: l => .cons ⟨rfl, (mk1_rs hL y l).1, (mk1_rs hL y l).2⟩ (rel_mk hL y l)
theorem lm2_mem' : ∀ (x : Lt) (l : Lr) (e : Wd × (List Wd × Tm)), e ∈ lm2 M x l → ∃ p ∈ l, e.1 = p.1 ∧ e.2.1 = p.2.ah
  | _, [], e, h => by cases h
  | _, (s, y) :: l, e, h => by
    rcases List.mem_cons.mp h with rfl | h
    · exact ⟨(s, y), List.mem_cons_self .., rfl, rfl⟩
    · obtain ⟨p, hp, e'⟩ := lm2_mem' y l e h
      exact ⟨p, List.mem_cons_of_mem _ hp, e'⟩
theorem mk2_mem (hL : ∀ y, (L y).t.ah = y.ah) : ∀ (x : Lt) (l : Lr) (p : Wd × Lt), p ∈ l → ∃ e ∈ thsOf (mk2 L x l), e.1 = p.1 ∧ e.2.ah = p.2.ah
  | _, [], p, h => by cases h
  | _, (s, y) :: l, p, h => by
    rcases List.mem_cons.mp h with rfl | h
    · refine ⟨(s, (mk1 L y l).t), List.mem_cons_self .., rfl, ?_⟩
      cases l with
      | nil => exact hL y
      | cons p l => rfl
    · obtain ⟨e, he, e'⟩ := mk2_mem hL y l p h
      exact ⟨e, List.mem_cons_of_mem _ he, e'⟩
theorem mk2_none (hL : ∀ y, (L y).t.rs = none) : ∀ (x : Lt) (l : Lr), l ≠ [] → ∃ e ∈ thsOf (mk2 L x l), e.2.rs = none
  | _, [], h => absurd rfl h
  | _, [(s, y)], _ => ⟨(s, (L y).t), List.mem_cons_self .., hL y⟩
  | _, (s, y) :: p :: l, _ => by
    obtain ⟨e, he, e'⟩ := mk2_none hL y (p :: l) (by simp)
    exact ⟨e, List.mem_cons_of_mem _ he, e'⟩
def NoBad (l : Lr) : Prop := ∀ p ∈ l, p.1 = wBang → p.2.ah = []
theorem rowTr_good (hL : ∀ y, (L y).t.ah = y.ah ∧ (L y).t.rs = some (M y)) {x : Lt} {l : Lr} (h : NoBad l) : ∃ q : Tm × Ts, ls q = (grpG x.ah (lm1 M x l) (lm2 M x l)).map wrapG ∧ sg q = sgnG (lm2 M x l) ∧ rowTr (mk1 L x l) (mk2 L x l) = fin (lay2 q.1 q.2) := by
  obtain ⟨q, e1, e2, e3⟩ := grp_good (rel_mk hL x l) (fun e he hb => by
    obtain ⟨p, hp, g1, g2⟩ := lm2_mem' x l e he
    rw [g2]; exact h p hp (g1 ▸ hb)) x.ah (lm1 M x l)
  refine ⟨q, e2, e3, ?_⟩
  show ((whole (mk1 L x l).t (thsOf (mk2 L x l))).bind _) = _
  unfold whole
  rw [(mk1_rs hL x l).2, (mk1_rs hL x l).1]
  show ((grp x.ah (lm1 M x l) (thsOf (mk2 L x l))).bind _) = _
  rw [e1]; rfl
theorem whole_none {t : Th} {r : Rs} (h : ∃ p ∈ r, (p.1 = wBang ∧ p.2.ah ≠ []) ∨ p.2.rs = none) : tree t r = none := by
  unfold tree whole
  cases t.rs with
  | none => rfl
  | some a => show ((grp t.ah a r).bind _) = none; rw [grp_bad r _ _ h]; rfl
theorem rowTr_bad (hL : ∀ y, (L y).t.ah = y.ah) {x : Lt} {l : Lr} {p : Wd × Lt} (hp : p ∈ l) (h1 : p.1 = wBang) (h2 : p.2.ah ≠ []) : rowTr (mk1 L x l) (mk2 L x l) = none := by
  obtain ⟨e, he, e1, e2⟩ := mk2_mem hL x l p hp
  exact whole_none ⟨e, he, .inl ⟨e1.trans h1, by rw [e2]; exact h2⟩⟩
theorem rowTr_none (hL : ∀ y, (L y).t.rs = none) {x : Lt} {l : Lr} : rowTr (mk1 L x l) (mk2 L x l) = none := by
  cases l with
  | nil => show tree (L x).t [] = none; unfold tree whole; rw [hL]; rfl
  | cons p l =>
    obtain ⟨e, he, e1⟩ := mk2_none hL x (p :: l) (by simp)
    exact whole_none ⟨e, he, .inr e1⟩
end
theorem sgnG_mem {M : Lt → Tm} {x : Lt} {l : Lr} {s : Wd} (h : s ∈ sgnG (lm2 M x l)) : ∃ p ∈ l, p.1 = s := by
  have gen : ∀ g : List (Wd × (List Wd × Tm)), s ∈ sgnG g → ∃ e ∈ g, e.1 = s := by
    intro g
    induction g with
    | nil => intro h; cases h
    | cons e g ih =>
      intro h
      obtain ⟨s', e'⟩ := e
      unfold sgnG at h
      split at h
      · obtain ⟨e, he, e1⟩ := ih h
        exact ⟨e, List.mem_cons_of_mem _ he, e1⟩
      · rcases List.mem_cons.mp h with rfl | h
        · exact ⟨_, List.mem_cons_self .., rfl⟩
        · obtain ⟨e, he, e1⟩ := ih h
          exact ⟨e, List.mem_cons_of_mem _ he, e1⟩
  obtain ⟨e, he, rfl⟩ := gen _ h
  obtain ⟨p, hp, g1, _⟩ := lm2_mem' x l e he
  exact ⟨p, hp, g1.symm⟩
theorem fl_sub (k : Nat) : ∀ (r : Ts) (a : Tm), (fl k a r).2.length ≤ r.length ∧ ∀ s ∈ sg (fl k a r), s ∈ r.map (·.1)
  | [], a => ⟨Nat.le_refl _, fun s hs => by cases hs⟩
  | (s', b) :: r, a => by
    unfold fl
    split
    · obtain ⟨h1, h2⟩ := fl_sub k r (.two s' a b)
      exact ⟨by simp only [List.length_cons]; omega, fun s hs => List.mem_cons_of_mem _ (h2 s hs)⟩
    · obtain ⟨h1, h2⟩ := fl_sub k r b
      refine ⟨by simp only [List.length_cons]; omega, fun s hs => ?_⟩
      rcases List.mem_cons.mp hs with h | h
      · rw [h]; exact List.mem_cons_self ..
      · exact List.mem_cons_of_mem _ (h2 s h)
theorem sgn4 : ∀ s ∈ [wLt, wEq, wColon, wPlus, wMinus, wTimes, wOver, wBang], ∃ c ∈ [60, 61, 58, 43, 45, 42, 47, 33], s = [c] ∧ decide (c ∈ [42, 47]) = decide (strength s = 4) := by decide
theorem sgn3 : ∀ s ∈ [wLt, wEq, wColon, wPlus, wMinus, wTimes, wOver, wBang], ∃ c ∈ [60, 61, 58, 43, 45, 42, 47, 33], s = [c] ∧ decide (c ∈ [43, 45]) = decide (strength s = 3) := by decide
theorem Sgn.s4 {s : Wd} (h : Sgn s) : ∃ c, s = [c] ∧ decide (c ∈ [42, 47]) = decide (strength s = 4) := by obtain ⟨c, _, h⟩ := sgn4 s h; exact ⟨c, h⟩
theorem Sgn.s3 {s : Wd} (h : Sgn s) : ∃ c, s = [c] ∧ decide (c ∈ [43, 45]) = decide (strength s = 3) := by obtain ⟨c, _, h⟩ := sgn3 s h; exact ⟨c, h⟩
end RD
set_option maxHeartbeats 4000000
namespace RD
open PySem L2
seal PE PT PW PA PS PSs PTs PI PG PGs PO PEX PSX
def Is (z : Str) (l : List Nat) : Prop := z = tx l
theorem Is.app {a b : Str} {x y : List Nat} (h : Is a x) (h' : Is b y) : Is (a ++ b) (x ++ y) := by unfold Is at *; rw [h, h', tx_app]
def inter (s : List Nat) : List (List Nat) → List Nat
  | [] => []
  | [x] => x
  | x :: r => x ++ s ++ inter s r
theorem join_txs (s : List Nat) : ∀ ls : List (List Nat), Str.join (tx s) (ls.map tx) = tx (inter s ls)
  | [] => rfl
  | [x] => rfl
  | x :: y :: r => by
    have ih := join_txs s (y :: r)
    show tx x ++ tx s ++ Str.join (tx s) ((y :: r).map tx) = _
    rw [ih, tx_app, tx_app]
    rfl
theorem Is.join {s : Str} {x : List Nat} {zs : List Str} {ls : List (List Nat)} (h : Is s x) (h' : zs = ls.map tx) : Is (Txt.join s zs) (inter x ls) := by
  unfold Is at *
  rw [h, h']
  show Builtin.Str.glued (tx x) (ls.map tx) = _
  rw [StrLaws.glued_eq_join, join_txs]
theorem Is.len {a : Str} {x : List Nat} (h : Is a x) : a.length = x.length := by unfold Is at h; rw [h, tx_len]
theorem cat_ok {a b : Str} {x y : List Nat} (h : Is a x) (h' : Is b y) (hl : x.length + y.length ≤ 100000) : a.length + b.length ≤ sizeLine := by
  rw [h.len, h'.len]
  exact Nat.le_trans hl (by decide)
theorem flat_one {α : Type} (x : α) : ∀ n, (List.replicate n [x]).flatten = List.replicate n x
  | 0 => rfl
  | n + 1 => by rw [List.replicate_succ, List.flatten_cons, flat_one x n, List.replicate_succ]; rfl
theorem mod_nat (c : Int) {n : Nat} (hn : 0 < n) : ∃ k : Nat, c % (n : Int) = (k : Int) ∧ k < n := by
  have h0 := Int.emod_nonneg c (show (n : Int) ≠ 0 by omega)
  have h1 := Int.emod_lt_of_pos c (show (0 : Int) < n by omega)
  obtain ⟨k, hk⟩ := Int.eq_ofNat_of_zero_le h0
  exact ⟨k, hk, by omega⟩
theorem ite2 {c A B : Prop} [Decidable c] (h : c → A) (h' : ¬ c → B) : if c then A else B := by
  by_cases e : c
  · rw [if_pos e]; exact h e
  · rw [if_neg e]; exact h' e
abbrev s_law_cell_at : Stmt := top 41
theorem sc_law_cell_at : FnScope ["_law_script", "_law_k"] ["_law_script", "_law_k"] (defScope s_law_cell_at) := ⟨rfl, rfl, rfl, by decide +kernel, rfl, by decide +kernel, by decide +kernel⟩
abbrev s_law_row : Stmt := top 42
theorem sc_law_row : FnScope ["_law_cells", "_law_things", "_law_signs", "_law_k", "_law_ahead"] ["_law_cells"] (defScope s_law_row) := ⟨rfl, rfl, rfl, by decide +kernel, rfl, by decide +kernel, by decide +kernel⟩
abbrev s_law_wrapped : Stmt := top 49
theorem sc_law_wrapped : FnScope ["_law_wrap", "_law_tree_here"] ["_law_wrap", "_law_tree_here"] (defScope s_law_wrapped) := ⟨rfl, rfl, rfl, by decide +kernel, rfl, by decide +kernel, by decide +kernel⟩
def LtN (pt ps : Addr) (H : Hp) (x : Lt) (r : V) : Prop := ∃ q la, r = .ref q ∧ H q = some (.tup [.ref la, .str (tx x.nm)]) ∧ H la = some (.lst (wds x.ah)) ∧ la ≠ pt ∧ la ≠ ps
theorem LtN.upd_ {pt ps p : Addr} {H : Hp} {x : Lt} {r : V} (h : LtN pt ps H x r) (hp : p = pt ∨ p = ps) {us vs : List V} (hH : H p = some (.lst us)) : LtN pt ps (upd H p (.lst vs)) x r := by
  obtain ⟨q, la, rfl, h1, h2, h3, h4⟩ := h
  refine ⟨q, la, rfl, ?_, ?_, h3, h4⟩
  · rw [upd_ne (ne_of h1 hH (by intro z; cases z))]; exact h1
  · rcases hp with rfl | rfl
    · rw [upd_ne h3]; exact h2
    · rw [upd_ne h4]; exact h2
theorem LtN.same {pt ps : Addr} {H H' : Hp} {x : Lt} {r : V} (h : LtN pt ps H x r) (s : Same H H') : LtN pt ps H' x r := by
  obtain ⟨q, la, rfl, h1, h2, h3, h4⟩ := h
  exact ⟨q, la, rfl, s _ _ h1, s _ _ h2, h3, h4⟩
theorem LtN.at_ {pt ps : Addr} {H : Hp} {x : Lt} {r : V} (h : LtN pt ps H x r) : LtAt H x r := by
  obtain ⟨q, la, rfl, h1, h2, h3, h4⟩ := h
  exact ⟨q, la, rfl, h1, h2⟩
theorem abc : ("abcdefghi" : Str).cps.toList = [97, 98, 99, 100, 101, 102, 103, 104, 105] := by decide +kernel
theorem abc_at : ∀ i : Nat, i < 9 → atI [97, 98, 99, 100, 101, 102, 103, 104, 105] (0 + (i : Int)) = some (97 + i) := by decide
theorem sgs : ("+-*/:!+-*/:!=<+-:" : Str).cps.toList = [43, 45, 42, 47, 58, 33, 43, 45, 42, 47, 58, 33, 61, 60, 43, 45, 58] := by decide +kernel
theorem sgs_at : ∀ i : Nat, i < 17 → ∃ c ∈ [43, 45, 42, 47, 58, 33, 61, 60], atI [43, 45, 42, 47, 58, 33, 43, 45, 42, 47, 58, 33, 61, 60, 43, 45, 58] (i : Int) = some c ∧ Sgn [c] := by decide
theorem one_at : ∀ i : Nat, i < 4 → ∃ w ∈ [wNot, wHead, wTail, wEmpty], atI [V.str "not", V.str "head", V.str "tail", V.str "empty"] (i : Int) = some (.str (tx w)) ∧ oneWord w = true := by decide +kernel
theorem num_at : ∀ i : Nat, i < 4 → ∃ n ∈ [0, 1, 2], atI [V.int 0, V.int 0, V.int 1, V.int 2] (i : Int) = some (.int ((n : Nat) : Int)) := by decide +kernel
theorem zip_maps : ∀ (ss : List Wd) (ys : List Lt), ss.length = ys.length → (ss.zip ys).map (·.1) = ss ∧ (ss.zip ys).map (·.2) = ys
  | [], [], _ => ⟨rfl, rfl⟩
  | s :: ss, y :: ys, h => by
    obtain ⟨h1, h2⟩ := zip_maps ss ys (by simpa using h)
    exact ⟨by rw [List.zip_cons_cons, List.map_cons, h1], by rw [List.zip_cons_cons, List.map_cons, h2]⟩
  | [], _ :: _, h => by simp at h
  | _ :: _, [], h => by simp at h
section
variable {P : Program} {w : World} {K : PySem.W.Frag} {mg : Str → Option Value} {base : Heap} {f : Addr} {fd : FuncData}
def spCell (K : PySem.W.Frag) : Sp := fun vs H Q _ => ∃ (a : Addr) (ns : List Int) (k : Int), vs = [.ref a, .int k] ∧ SqL K H a (ns.map V.int) ∧ 0 ≤ k ∧ ∀ c : Int, Q (.int c) H
theorem ok_law_cell_at (F : Fun K "_law_cell_at" "_law_cell_at" s_law_cell_at f fd) (B : NoG mg) : FnOk P w K mg base CX0 1 f fd ["_law_script", "_law_k"] (spCell K) := by
  refine F.ok sc_law_cell_at (fun vs H Q E h => ?_) (fun cdv A outer s H vs Q E hr h => ?_)
  · obtain ⟨a, ns, k, rfl, _⟩ := h
    rfl
  obtain ⟨a, ns, k, rfl, hS, hk, q⟩ := h
  have nd := sc_law_cell_at.nd
  refine ⟨_, (pss_cons (ps_if (pt_cmpR op_lt (pv 1) (pe_callB (k_len (K := K)) rfl B.len_ bt_len (pa_cons (pv 0) pa_nil)) rfl) (pss_one (ps_ret (pe_ix (kIx (K := K) (w := w)) (pv 0) (pv 1) (fun _ _ => rfl)))) pss_nil)
      (pss_one (ps_ret pe_int))), ?_⟩
  refine ⟨_, rfl, _, rfl, _, _, rfl, .inl ⟨_, hS, rfl⟩, _, _, rfl, rfl, _, rfl, ite2 (fun c => ?_) (fun c => ?_)⟩
  · have c' : k < ((ns.map V.int).length : Nat) := of_decide_eq_true c
    rw [List.length_map] at c'
    have hk' : k.toNat < ns.length := by omega
    have e : atI (ns.map V.int) ((k.toNat : Nat) : Int) = some (.int ns[k.toNat]) := atI_nat (by rw [List.getElem?_map, List.getElem?_eq_getElem hk']; rfl)
    have ek : ((k.toNat : Nat) : Int) = k := by omega
    rw [ek] at e
    exact ⟨_, rfl, _, rfl, .inl ⟨_, _, _, _, rfl, rfl, hS, e, q _⟩⟩
  · exact q 0
def spRow12 : Sp := fun vs H Q _ => ∃ (pc : Addr) (cs : List Int), vs = [.ref pc] ∧ H pc = some (.lst (cs.map V.int)) ∧ 1 ≤ cs.length ∧ cs.length ≤ 9 ∧
  ∀ H' r pt ps x l, Same H H' → H' r = some (.tup [.ref pt, .ref ps]) → ThsAt H' pt (xsOf x l) → H' ps = some (.lst (wds (ssOf l))) → Lrok x l → l.length + 1 = cs.length → Q (.ref r) H'
theorem ok_law_row (F : Fun K "_law_row" "_law_row" s_law_row f fd) (B : NoG mg) : FnOk P w K mg base CX0 1 f fd ["_law_cells"] spRow12 := by
  refine F.ok sc_law_row (fun vs H Q E h => ?_) (fun cdv A outer s H vs Q E hr h => ?_)
  · obtain ⟨pc, cs, rfl, _⟩ := h
    rfl
  obtain ⟨pc, cs, rfl, hpc, hn1, hn9, qq⟩ := h
  have nd := sc_law_row.nd
  have hu := hr.units0
  have z0 : (0 : Nat) ≤ sizeLine := by decide
  have z1 : (1 : Nat) ≤ sizeLine := by decide
  have z2 : (2 : Nat) ≤ sizeLine := by decide
  have z4 : (4 : Nat) ≤ sizeLine := by decide
  have zB : (1000 : Nat) < sizeLine := by decide
  refine ⟨_, (pss_cons (ps_set (i := 1) nd rfl (Or.inl rfl) (pe_lst pa_nil))
      (pss_cons (ps_set (i := 2) nd rfl (Or.inl rfl) (pe_lst pa_nil))
      (pss_cons (ps_for PassesOwn.never rfl (pi_range1 rfl B.range_ (pa_cons (pe_callB (k_len (K := K)) rfl B.len_ bt_len (pa_cons (pv 0) pa_nil)) pa_nil)) (pg_name (i := 3) nd rfl (Or.inl rfl)) (pss_cons (ps_set (i := 4) nd rfl (Or.inl rfl) (pe_lst pa_nil))
      (pss_cons (ps_cut (ps_if (PW.pt (pw_or (pt_cmpR (kEq (K := K) hu) (pv 3) pe_int rfl) (pw_or (pt_cmpR (kNe (K := K) hu) (pe_ix (kIx (K := K) (w := w)) (pv 2) (pe_un un_neg pe_int) (fun _ _ => rfl)) pe_str rfl) (pw_or1 (pt_cmpR (kEq (K := K) hu) (pe_op op_mod (pe_op op_fdiv (pe_ix (kIx (K := K) (w := w)) (pv 0) (pv 3) (fun _ _ => rfl)) pe_int) pe_int) pe_int rfl))))) (pss_one (ps_set (i := 4) nd rfl (Or.inl rfl) (pe_op uMul (pe_lst (pa_cons (pe_ix (kIx (K := K) (w := w)) (pe_lst (pa_strs rfl)) (pe_op op_mod (pe_op op_fdiv (pe_ix (kIx (K := K) (w := w)) (pv 0) (pv 3) (fun _ _ => rfl)) pe_int) pe_int) (fun _ _ => rfl)) pa_nil)) (pe_ix (kIx (K := K) (w := w)) (pe_lst (pa_cons pe_int (pa_cons pe_int (pa_cons pe_int (pa_cons pe_int pa_nil))))) (pe_op op_mod (pe_op op_fdiv (pe_ix (kIx (K := K) (w := w)) (pv 0) (pv 3) (fun _ _ => rfl)) pe_int) pe_int) (fun _ _ => rfl))))) pss_nil))
      (pss_cons (ps_expr (k_bm (K := K) PySem.F.plainAttrs_list PySem.F.slot_list_append PySem.F.type_list_append mt_append (pv 1) (pa_cons (pe_tup (pa_cons (pv 4) (pa_cons (pe_ix ix_str pe_str (pv 3) (fun _ _ => rfl)) pa_nil))) pa_nil)))
      (pss_one (ps_cut (ps_if (pt_cmpR op_lt (pe_op uAdd (pv 3) pe_int) (pe_callB (k_len (K := K)) rfl B.len_ bt_len (pa_cons (pv 0) pa_nil)) rfl) (pss_one (ps_expr (k_bm (K := K) PySem.F.plainAttrs_list PySem.F.slot_list_append PySem.F.type_list_append mt_append (pv 2) (pa_cons (pe_ix ix_str pe_str (pe_op op_mod (pe_op op_fdiv (pe_ix (kIx (K := K) (w := w)) (pv 0) (pv 3) (fun _ _ => rfl)) pe_int) pe_int) (fun _ _ => rfl)) pa_nil)))) pss_nil)))))))
      (pss_one (ps_ret (pe_tup (pa_cons (pv 1) (pa_cons (pv 2) pa_nil)))))))), ?_⟩
  refine ⟨z0, fun pt hpt => ⟨z0, fun ps hps => ?_⟩⟩
  have n1 : pt ≠ ps := ne_of_none (upd_same (H := H) (o := .lst [])) hps
  have hHs : H ps = none := (same_new hpt (.lst [])).free hps
  have s0 := (same_new hpt (.lst [])).trans (same_new hps (.lst []))
  have f0 : (upd (upd H pt (.lst [])) ps (.lst [])) pt = some (.lst []) := by rw [upd_ne n1, upd_same]
  have f1 : (upd (upd H pt (.lst [])) ps (.lst [])) ps = some (.lst []) := upd_same
  generalize upd (upd H pt (.lst [])) ps (.lst []) = H0 at s0 f0 f1 ⊢
  refine ⟨_, rfl, _, _, rfl, .inl ⟨_, SqL.of (s0 _ _ hpc), rfl⟩, _, rfl, by omega, ?_, ?_⟩
  · rw [List.length_map]; omega
  rw [show ((((cs.map V.int).length : Nat) : Int)).toNat = cs.length by rw [List.length_map]; omega]
  refine for_range (n := cs.length) (lo := 0) (fun i σ H' => ∃ (x3 x4 : Option V) (ths : List Lt) (ss : List Wd) (rs : List V), σ = [some (.ref pc), some (.ref pt), some (.ref ps), x3, x4] ∧ Same H H' ∧ H' pt = some (.lst rs) ∧ BU.All2 (LtN pt ps H') ths rs ∧ H' ps = some (.lst (wds ss)) ∧ ths.length = i ∧ (∀ y ∈ ths, y.ok) ∧ (∀ s ∈ ss, Sgn s) ∧ ss.length = min i (cs.length - 1)) ?_ ?_ ?_
  · exact ⟨none, none, [], [], [], rfl, s0, f0, .nil, f1, rfl, by simp, by simp, by simp⟩
  · rintro i σ H' hi ⟨x3, x4, ths, ss, rs, rfl, sm, ht, hA, hs, e1, e2, e3, e4⟩
    have hat : atI (cs.map V.int) (0 + (i : Int)) = some (.int cs[i]) := by rw [Int.zero_add]; exact atI_nat (by rw [List.getElem?_map, List.getElem?_eq_getElem hi]; rfl)
    generalize cs[i] = c at hat
    have hrl : rs.length = i := by rw [← hA.len, e1]
    refine ⟨z0, fun la hla => ?_⟩
    have sa := same_new hla (.lst [])
    have hHla : H la = none := sm.free hla
    refine ⟨fun σ' H'' => ∃ (la : Addr) (ah : List Wd), σ' = [some (.ref pc), some (.ref pt), some (.ref ps), some (.int (0 + (i : Int))), some (.ref la)] ∧ Same H' H'' ∧ H'' la = some (.lst (wds ah)) ∧ H' la = none ∧ ∃ w n, ah = List.replicate n w ∧ oneWord w = true ∧ n ≤ 2, ?_, ?_⟩
    · have hc0 : (upd H' la (.lst [])) pc = some (.lst (cs.map V.int)) := sa _ _ (sm _ _ hpc)
      have hs0 : (upd H' la (.lst [])) ps = some (.lst (wds ss)) := sa _ _ hs
      have hl0 : (upd H' la (.lst [])) la = some (.lst []) := upd_same
      generalize upd H' la (.lst []) = Ha at sa hc0 hs0 hl0 ⊢
      obtain ⟨k3, hk3, hk3'⟩ := mod_nat (c / 3) (n := 4) (by decide)
      have hk3 : c / 3 % 4 = (k3 : Int) := hk3
      obtain ⟨k12, hk12, hk12'⟩ := mod_nat (c / 12) (n := 4) (by decide)
      have hk12 : c / 12 % 4 = (k12 : Int) := hk12
      obtain ⟨w1, _, hw1, ho1⟩ := one_at k3 hk3'
      obtain ⟨n, hn, hn1⟩ := num_at k12 hk12'
      rw [← hk3] at hw1
      rw [← hk12] at hn1
      have hn2 : n ≤ 2 := by
        have : n = 0 ∨ n = 1 ∨ n = 2 := by simpa using hn
        omega
      suffices yes : _ from ⟨_, rfl, .inl ⟨rfl, _, rfl, ite2 (fun c1 => ifT rfl yes) (fun c1 => by
        have hi0 : 0 < i := by
          rcases Nat.eq_zero_or_pos i with h | h
          · exact absurd (decide_eq_true (show V.int (0 + (i : Int)) = V.int 0 by rw [h]; rfl)) c1
          · exact h
        obtain ⟨ss', sl, rfl⟩ : ∃ ss' sl, ss = ss' ++ [sl] := by
          rcases List.eq_nil_or_concat ss with h | ⟨a, b, h⟩
          · rw [h] at e4; simp at e4; omega
          · exact ⟨a, b, by rw [h]; simp⟩
        rw [show wds (ss' ++ [sl]) = wds ss' ++ [.str (tx sl)] by simp [wds]] at hs0
        exact ⟨_, rfl, _, rfl, .inl ⟨ps, _, _, _, rfl, rfl, SqL.of hs0, atI_last _ _, .inl ⟨rfl, _, rfl, ite2 (fun c2 => ifT rfl yes) (fun c2 =>
          ⟨_, rfl, _, rfl, .inl ⟨pc, _, _, _, rfl, rfl, SqL.of hc0, hat, _, _, rfl, rfl, ⟨by decide, by decide⟩, _, _, rfl, rfl, (by decide : (0 : Int) < 16), .inl ⟨rfl, _, rfl, ite2 (fun c3 => yes) (fun c3 => ⟨la, [], rfl, sa, hl0, hla, wNot, 0, rfl, rfl, by omega⟩)⟩⟩⟩)⟩⟩⟩)⟩⟩
      refine ⟨z4, fun p1 hp1 => ⟨_, rfl, _, rfl, .inl ⟨pc, _, _, _, rfl, rfl, SqL.of (same_new hp1 _ _ _ hc0), hat, _, _, rfl, rfl, ⟨by decide, by decide⟩, _, _, rfl, rfl, (by decide : (0 : Int) < 4), .inl ⟨p1, _, _, _, rfl, rfl, SqL.of upd_same, hw1, z1, fun p2 hp2 => ?_⟩⟩⟩⟩
      have s2 := (same_new hp1 (.lst [V.str "not", V.str "head", V.str "tail", V.str "empty"])).trans (same_new hp2 (.lst [.str (tx w1)]))
      refine ⟨z4, fun p3 hp3 => ⟨_, rfl, _, rfl, .inl ⟨pc, _, _, _, rfl, rfl, SqL.of (same_new hp3 _ _ _ (s2 _ _ hc0)), hat, _, _, rfl, rfl, ⟨by decide, by decide⟩, _, _, rfl, rfl, (by decide : (0 : Int) < 4), .inl ⟨p3, _, _, _, rfl, rfl, SqL.of upd_same, hn1, ?_⟩⟩⟩⟩
      have s3 := same_new hp3 (.lst [V.int 0, V.int 0, V.int 1, V.int 2])
      refine .inr (.inr ⟨p2, _, _, rfl, rfl, s3 _ _ upd_same, by omega, by omega, by simp only [List.length_cons, List.length_nil]; omega, fun p4 hp4 => ?_⟩)
      have s4 := s2.trans (s3.trans (same_new hp4 (.lst (List.replicate ((n : Int)).toNat [V.str (tx w1)]).flatten)))
      refine ⟨p4, List.replicate n w1, rfl, sa.trans s4, ?_, (sa.trans (s2.trans s3)).free hp4, w1, n, rfl, ho1, hn2⟩
      rw [upd_same, flat_one]
      simp [wds]
    rintro σ' H1 ⟨la, ah, rfl, s1, hl1, hl0, hah⟩
    have nt : la ≠ pt := (ne_of_none ht hl0).symm
    have ns : la ≠ ps := (ne_of_none hs hl0).symm
    have sm1 := sm.trans s1
    have ht1 := s1 _ _ ht
    have hs1 := s1 _ _ hs
    have hA1 := hA.imp fun _ _ h => h.same s1
    refine ⟨_, rfl, .inl ⟨rfl, _, SqL.of ht1⟩, _, rfl, _, rfl, _, _, _, rfl, rfl, by decide, by rw [abc]; exact abc_at i (by omega), z2, fun q hq => ?_⟩
    have s2 := same_new hq (.tup [.ref la, .str (tx [97 + i])])
    have hq1 : (upd H1 q (.tup [.ref la, .str (tx [97 + i])])) q = some (.tup [.ref la, .str (tx [97 + i])]) := upd_same
    refine ⟨pt, _, _, rfl, rfl, s2 _ _ ht1, by omega, ?_⟩
    have ht2 := s2 _ _ ht1
    have hs2 := s2 _ _ hs1
    have hl2 := s2 _ _ hl1
    have hA2 := hA1.imp fun _ _ h => h.same s2
    have sm2 := sm1.trans s2
    change (upd H1 q (.tup [.ref la, .str (tx [97 + i])])) pt = _ at ht2
    show _
    generalize hH2 : upd H1 q (.tup [.ref la, .str (tx [97 + i])]) = H2 at s2 hq1 ht2 hs2 hl2 hA2 sm2
    have hA3 : BU.All2 (LtN pt ps (upd H2 pt (.lst (rs ++ [.ref q])))) (ths ++ [⟨ah, [97 + i]⟩]) (rs ++ [.ref q]) := by
      refine (hA2.imp fun _ _ h => h.upd_ (.inl rfl) ht2).app (.cons ?_ .nil)
      exact LtN.upd_ ⟨q, la, rfl, hq1, hl2, nt, ns⟩ (.inl rfl) ht2
    have hs3 : (upd H2 pt (.lst (rs ++ [.ref q]))) ps = some (.lst (wds ss)) := by rw [upd_ne n1.symm]; exact hs2
    have ht3 : (upd H2 pt (.lst (rs ++ [.ref q]))) pt = some (.lst (rs ++ [.ref q])) := upd_same
    have sm3 := same_upd (o := .lst (rs ++ [.ref q])) sm2 hpt
    have hok : ∀ y ∈ ths ++ [(⟨ah, [97 + i]⟩ : Lt)], y.ok := by
      intro y hy
      rcases List.mem_append.mp hy with hy | hy
      · exact e2 y hy
      · have : y = ⟨ah, [97 + i]⟩ := by simpa using hy
        rw [this]
        exact ⟨hah, 97 + i, rfl, by omega, by omega⟩
    have hlen3 : (ths ++ [(⟨ah, [97 + i]⟩ : Lt)]).length = i + 1 := by rw [List.length_append, e1]; rfl
    subst hH2
    have hc3 := sm3 _ _ hpc
    refine ⟨_, ?_, fun _ _ h => h⟩
    refine ⟨_, rfl, .inl ⟨_, _, rfl, rfl, _, rfl, _, _, rfl, .inl ⟨_, SqL.of hc3, rfl⟩, _, _, rfl, rfl, _, rfl, ite2 (fun c1 => ?_) (fun c1 => ?_)⟩⟩
    · have c1 := of_decide_eq_true c1
      rw [List.length_map] at c1
      obtain ⟨k17, hk17, hk17'⟩ := mod_nat (c / 48) (n := 17) (by decide)
      have hk17 : c / 48 % 17 = (k17 : Int) := hk17
      obtain ⟨c', _, hc', hsg⟩ := sgs_at k17 hk17'
      rw [← hk17] at hc'
      refine ⟨_, rfl, .inl ⟨rfl, _, SqL.of hs3⟩, _, rfl, _, rfl, .inl ⟨pc, _, _, _, rfl, rfl, SqL.of hc3, hat, _, _, rfl, rfl, ⟨by decide, by decide⟩, _, _, rfl, rfl, (by decide : (0 : Int) < 17), _, _, c', rfl, rfl, by decide, by rw [sgs]; exact hc', ps, _, _, rfl, rfl, hs3, by simp only [List.length_map]; omega, ?_⟩⟩
      refine ⟨_, _, ths ++ [⟨ah, [97 + i]⟩], ss ++ [[c']], rs ++ [.ref q], rfl, same_upd sm3 hHs, ?_, hA3.imp fun _ _ h => h.upd_ (.inr rfl) hs3, ?_, hlen3, hok, ?_, ?_⟩
      · rw [upd_ne n1]; exact ht3
      · rw [upd_same]; simp [wds]
      · intro s hs'
        rcases List.mem_append.mp hs' with h | h
        · exact e3 s h
        · have : s = [c'] := by simpa using h
          rw [this]; exact hsg
      · simp only [List.length_append, List.length_cons, List.length_nil, e4]; omega
    · have c1 : ¬ (0 + (i : Int) + 1 < ((cs.length : Nat) : Int)) := fun h => c1 (decide_eq_true (by rw [List.length_map]; exact h))
      exact ⟨_, _, ths ++ [⟨ah, [97 + i]⟩], ss, rs ++ [.ref q], rfl, sm3, ht3, hA3, hs3, hlen3, hok, e3, by rw [e4]; omega⟩
  · rintro σ H' ⟨x3, x4, ths, ss, rs, rfl, sm, ht, hA, hs, e1, e2, e3, e4⟩
    obtain ⟨x, ys, rfl⟩ : ∃ x ys, ths = x :: ys := by
      cases ths with
      | nil => simp at e1; omega
      | cons x ys => exact ⟨x, ys, rfl⟩
    have hl : ss.length = ys.length := by simp only [List.length_cons] at e1; omega
    obtain ⟨m1, m2⟩ := zip_maps ss ys hl
    refine ⟨_, rfl, _, rfl, z2, fun r hr => ?_⟩
    have s1 := same_new hr (.tup [.ref pt, .ref ps])
    refine qq _ r pt ps x (ss.zip ys) (sm.trans s1) upd_same ⟨rs, s1 _ _ ht, ?_⟩ ?_ ⟨e2 x (List.mem_cons_self ..), fun p hp => ?_⟩ ?_
    · show BU.All2 _ (x :: (ss.zip ys).map (·.2)) rs
      rw [m2]
      exact hA.imp fun _ _ h => (h.same s1).at_
    · have h := s1 _ _ hs
      rw [← m1] at h
      exact h
    · obtain ⟨a, b⟩ := p
      exact ⟨e3 _ (List.of_mem_zip hp).1, e2 _ (List.mem_cons_of_mem _ (List.of_mem_zip hp).2)⟩
    · rw [List.length_zip, hl, Nat.min_self]; simpa using e1
end
end RD
set_option maxHeartbeats 4000000
namespace RD
open PySem L2
seal PE PT PW PA PS PSs PTs PI PG PGs PO PEX PSX
abbrev s_law_text : Stmt := top 47
theorem sc_law_text : FnScope ["_law_things", "_law_signs", "_law_last_here", "_law_text_here", "_law_k", "_law_name"] ["_law_things", "_law_signs", "_law_last_here"] (defScope s_law_text) := ⟨rfl, rfl, rfl, by decide +kernel, rfl, by decide +kernel, by decide +kernel⟩
abbrev s_law_long : Stmt := top 48
theorem sc_law_long : FnScope ["_law_way", "_law_texts", "_law_trees", "_law_text_here"] ["_law_way", "_law_texts", "_law_trees"] (defScope s_law_long) := ⟨rfl, rfl, rfl, by decide +kernel, rfl, by decide +kernel, by decide +kernel⟩
def OpAt (H : Hp) (o : Option Tm) (v : V) : Prop := match o with
  | none => v = .non
  | some t => TmAt H t v
theorem OpAt.same {H H' : Hp} {o : Option Tm} {v : V} (h : OpAt H o v) (s : Same H H') : OpAt H' o v := by
  cases o with
  | none => exact h
  | some t => exact TmAt.mono (BU.tups_of s) h
theorem OpAt.some_ {H : Hp} {o : Option Tm} {v : V} {t : Tm} (h : OpAt H o v) (e : o = some t) : TmAt H t v := by rw [e] at h; exact h
theorem lit_p : ("p" : Str) = tx [112] := by decide +kernel
theorem lit_q : ("q" : Str) = tx [113] := by decide +kernel
theorem lit_r : ("r" : Str) = tx [114] := by decide +kernel
theorem lit_z : ("z" : Str) = tx [122] := by decide +kernel
theorem lit_y : ("y" : Str) = tx [121] := by decide +kernel
theorem lit_f : ("f" : Str) = tx [102] := by decide +kernel
def wrapT (k : Nat) (t : Tm) : Tm := if k = 1 then .if_ (.name [112]) (.name [113]) t else if k = 2 then .let_ [122] (.name [114]) t else .fn [122] t
theorem int_dec (a b : Nat) : decide (V.int (a : Int) = V.int (b : Int)) = decide (a = b) := by
  rw [Bool.eq_iff_iff, decide_eq_true_iff, decide_eq_true_iff]
  exact ⟨fun h => by injection h with h; omega, fun h => by rw [h]⟩
theorem inter_wtxt (nm : Wd) : ∀ ah : List Wd, inter [32] (ah ++ [nm]) = wtxt ah ++ nm
  | [] => rfl
  | [w] => by simp [inter, wtxt]
  | w :: w' :: ah => by
    have ih := inter_wtxt nm (w' :: ah)
    show w ++ [32] ++ inter [32] ((w' :: ah) ++ [nm]) = _
    rw [ih]
    simp [wtxt]
theorem rowTx_nil (L : Lt → Tx) (x : Lt) : rowTx (mk1 L x []) (mk2 L x []) = ttxt (mk1 L x []) := by simp [rowTx, mk2, rtxt]
theorem rowTx_cons (L : Lt → Tx) (x y : Lt) (s : Wd) (l : Lr) : rowTx (mk1 L x ((s, y) :: l)) (mk2 L x ((s, y) :: l)) = ttxt (mk1 L x ((s, y) :: l)) ++ ([32] ++ s ++ [32]) ++ rowTx (mk1 L y l) (mk2 L y l) := by simp [rowTx, mk2, rtxt]
theorem lit_sp : Is (" " : Str) [32] := by show (" " : Str) = _; decide +kernel
theorem lit_e : Is ("" : Str) [] := by show ("" : Str) = _; decide +kernel
theorem sum_len (ws : List Wd) : ((ws.map tx).map (·.length)).sum = (ws.map List.length).sum := by
  rw [List.map_map]
  exact congrArg List.sum (List.map_congr_left fun w _ => tx_len w)
theorem wtxt_sum : ∀ (ah : List Wd) (nm : Wd), ((ah ++ [nm]).map List.length).sum + ah.length = (wtxt ah ++ nm).length
  | [], nm => by simp [wtxt]
  | w :: ah, nm => by
    have := wtxt_sum ah nm
    simp only [List.cons_append, List.map_cons, List.sum_cons, List.length_cons, wtxt, List.append_assoc, List.length_append, List.length_nil] at this ⊢
    omega
section
variable {P : Program} {w : World} {K : PySem.W.Frag} {mg : Str → Option Value} {base : Heap} {f : Addr} {fd : FuncData}
def spWrap : Sp := fun vs H Q _ => ∃ (k : Nat) (v : V) (t : Tm), vs = [.int (k : Nat), v] ∧ TmAt H t v ∧ ∀ H' r, Same H H' → TmAt H' (wrapT k t) (.ref r) → Q (.ref r) H'
theorem ok_law_wrapped (F : Fun K "_law_wrapped" "_law_wrapped" s_law_wrapped f fd) (B : NoG mg) : FnOk P w K mg base CX0 1 f fd ["_law_wrap", "_law_tree_here"] spWrap := by
  refine F.ok sc_law_wrapped (fun vs H Q E h => ?_) (fun cdv A outer s H vs Q E hr h => ?_)
  · obtain ⟨k, v, t, rfl, _⟩ := h
    rfl
  obtain ⟨k, v, t, rfl, ht, q⟩ := h
  have nd := sc_law_wrapped.nd
  have hu := hr.units0
  have z2 : (2 : Nat) ≤ sizeLine := by decide
  have z3 : (3 : Nat) ≤ sizeLine := by decide
  have z4 : (4 : Nat) ≤ sizeLine := by decide
  unfold wrapT at q
  refine ⟨_, (pss_cons (ps_if (pt_cmpR (kEq (K := K) hu) (pv 0) pe_int rfl) (pss_one (ps_ret (pe_tup (pa_cons pe_str (pa_cons (pe_tup (pa_cons pe_str (pa_cons pe_str pa_nil))) (pa_cons (pe_tup (pa_cons pe_str (pa_cons pe_str pa_nil))) (pa_cons (pv 1) pa_nil))))))) pss_nil)
      (pss_cons (ps_if (pt_cmpR (kEq (K := K) hu) (pv 0) pe_int rfl) (pss_one (ps_ret (pe_tup (pa_cons pe_str (pa_cons pe_str (pa_cons (pe_tup (pa_cons pe_str (pa_cons pe_str pa_nil))) (pa_cons (pv 1) pa_nil))))))) pss_nil)
      (pss_one (ps_ret (pe_tup (pa_cons pe_str (pa_cons pe_str (pa_cons (pv 1) pa_nil)))))))), ?_⟩
  refine ⟨_, rfl, .inl ⟨rfl, _, rfl, ite2 (fun c1 => ?_) (fun c1 => ?_)⟩⟩
  · have c1 : k = 1 := of_decide_eq_true ((int_dec k 1) ▸ c1)
    rw [if_pos c1] at q
    refine ⟨z2, fun p1 hp1 => ⟨z2, fun p2 hp2 => ⟨_, rfl, z4, fun p3 hp3 => ?_⟩⟩⟩
    have s1 := same_new hp1 (.tup [.str "name", .str "p"])
    have s2 := same_new hp2 (.tup [.str "name", .str "q"])
    have s3 := same_new hp3 (.tup [.str "if", .ref p1, .ref p2, v])
    refine q _ p3 (s1.trans (s2.trans s3)) (.if_ upd_same (.name (x := [112]) ?_) (.name (x := [113]) ?_) (ht.mono (BU.tups_of (s1.trans (s2.trans s3)))))
    · rw [← lit_p]; exact (s2.trans s3) _ _ upd_same
    · rw [← lit_q]; exact s3 _ _ upd_same
  have c1 : k ≠ 1 := fun h => c1 ((int_dec k 1) ▸ decide_eq_true h)
  rw [if_neg c1] at q
  refine ⟨_, rfl, .inl ⟨rfl, _, rfl, ite2 (fun c2 => ?_) (fun c2 => ?_)⟩⟩
  · have c2 : k = 2 := of_decide_eq_true ((int_dec k 2) ▸ c2)
    rw [if_pos c2] at q
    refine ⟨z2, fun p1 hp1 => ⟨_, rfl, z4, fun p3 hp3 => ?_⟩⟩
    have s1 := same_new hp1 (.tup [.str "name", .str "r"])
    have s3 := same_new hp3 (.tup [.str "let", .str "z", .ref p1, v])
    refine q _ p3 (s1.trans s3) (.let_ (x := [122]) (v := .ref p1) ?_ (.name (x := [114]) ?_) (ht.mono (BU.tups_of (s1.trans s3))))
    · rw [← lit_z]; exact upd_same
    · rw [← lit_r]; exact s3 _ _ upd_same
  · have c2 : k ≠ 2 := fun h => c2 ((int_dec k 2) ▸ decide_eq_true h)
    rw [if_neg c2] at q
    refine ⟨_, rfl, z3, fun p3 hp3 => ?_⟩
    have s3 := same_new hp3 (.tup [.str "fn", .str "z", v])
    refine q _ p3 s3 (.fn (x := [122]) (v := v) ?_ (ht.mono (BU.tups_of s3)))
    rw [← lit_z]; exact upd_same
def spText : Sp := fun vs H Q _ => ∃ (pt ps : Addr) (zl : List Nat) (x : Lt) (l : Lr) (L : Lt → Tx), vs = [.ref pt, .ref ps, .str (tx zl)] ∧ ThsAt H pt (xsOf x l) ∧ H ps = some (.lst (wds (ssOf l))) ∧ l.length ≤ 100 ∧ (∀ y, (L y).t.ah = y.ah ∧ (L y).x = if zl = [] then y.nm else zl) ∧ (rowTx (mk1 L x l) (mk2 L x l)).length ≤ 1000 ∧ (∀ y ∈ xsOf x l, y.ah.length ≤ 2) ∧
  ∀ H', Same H H' → Q (.str (tx (rowTx (mk1 L x l) (mk2 L x l)))) H'
theorem ok_law_text (F : Fun K "_law_text" "_law_text" s_law_text f fd) (B : NoG mg) : FnOk P w K mg base CX0 1 f fd ["_law_things", "_law_signs", "_law_last_here"] spText := by
  refine F.ok sc_law_text (fun vs H Q E h => ?_) (fun cdv A outer s H vs Q E hr h => ?_)
  · obtain ⟨pt, ps, zl, x, l, L, rfl, _⟩ := h
    rfl
  obtain ⟨pt, ps, zl, x, l, L, rfl, ⟨rs, hpt, hA⟩, hps, hl, hL, hlen, hah2, qq⟩ := h
  have nd := sc_law_text.nd
  have hu := hr.units0
  have z1 : (1 : Nat) ≤ sizeLine := by decide
  have zB : (1000 : Nat) < sizeLine := by decide
  have hrl : rs.length = l.length + 1 := by rw [← hA.len]; simp
  generalize hW : rowTx (mk1 L x l) (mk2 L x l) = W at qq hlen
  refine ⟨_, (pss_cons (ps_set (i := 3) nd rfl (Or.inl rfl) pe_str)
      (pss_cons (ps_for PassesOwn.never rfl (pi_range1 rfl B.range_ (pa_cons (pe_callB (k_len (K := K)) rfl B.len_ bt_len (pa_cons (pv 0) pa_nil)) pa_nil)) (pg_name (i := 4) nd rfl (Or.inl rfl)) (pss_cons (ps_set (i := 5) nd rfl (Or.inl rfl) (pe_ix (kIx (K := K) (w := w)) (pe_ix (kIx (K := K) (w := w)) (pv 0) (pv 4) (fun _ _ => rfl)) pe_int (fun _ _ => rfl)))
      (pss_cons (ps_cut (ps_if (PW.pt (pw_and (pt_cmpR (kEq (K := K) hu) (pe_op uAdd (pv 4) pe_int) (pe_callB (k_len (K := K)) rfl B.len_ bt_len (pa_cons (pv 0) pa_nil)) rfl) (pw_and1 (pt_cmpR (kNe (K := K) hu) (pv 2) pe_str rfl)))) (pss_one (ps_set (i := 5) nd rfl (Or.inl rfl) (pv 2))) pss_nil))
      (pss_cons (ps_set (i := 3) nd rfl (Or.inl rfl) (pe_op uAdd (pv 3) (k_bm (K := K) PySem.F.plainAttrs_str PySem.F.slot_str_join PySem.F.type_str_join (k_join (K := K)) pe_str (pa_cons (pe_op uAdd (pe_ix (kIx (K := K) (w := w)) (pe_ix (kIx (K := K) (w := w)) (pv 0) (pv 4) (fun _ _ => rfl)) pe_int (fun _ _ => rfl)) (pe_lst (pa_cons (pv 5) pa_nil))) pa_nil))))
      (pss_one (ps_cut (ps_if (pt_cmpR op_lt (pv 4) (pe_callB (k_len (K := K)) rfl B.len_ bt_len (pa_cons (pv 1) pa_nil)) rfl) (pss_one (ps_set (i := 3) nd rfl (Or.inl rfl) (pe_op uAdd (pe_op uAdd (pe_op uAdd (pv 3) pe_str) (pe_ix (kIx (K := K) (w := w)) (pv 1) (pv 4) (fun _ _ => rfl))) pe_str))) pss_nil)))))))
      (pss_one (ps_ret (pv 3))))), ?_⟩
  refine ⟨_, rfl, _, _, rfl, .inl ⟨_, SqL.of hpt, rfl⟩, _, rfl, by omega, ?_, ?_⟩
  · rw [hrl]; omega
  rw [show (((rs.length : Nat) : Int)).toNat = l.length + 1 by rw [hrl]; omega]
  refine for_range (n := l.length + 1) (lo := 0) (fun i σ H' => ∃ (x4 x5 : Option V) (T : List Nat), σ = [some (.ref pt), some (.ref ps), some (.str (tx zl)), some (.str (tx T)), x4, x5] ∧ Same H H' ∧
    ((i = l.length + 1 ∧ T = W) ∨ ∃ y l', (xsOf x l).drop i = xsOf y l' ∧ (ssOf l).drop i = ssOf l' ∧ T ++ rowTx (mk1 L y l') (mk2 L y l') = W)) ?_ ?_ ?_
  · exact ⟨none, none, [], rfl, Same.refl _, .inr ⟨x, l, rfl, rfl, hW⟩⟩
  · rintro i σ H' hi ⟨x4, x5, T, rfl, sm, hI⟩
    rcases hI with ⟨h, _⟩ | ⟨y, l', d1, d2, hT⟩
    · omega
    have hy : (xsOf x l)[i]? = some y := by
      have := congrArg (·[0]?) d1
      simpa [List.getElem?_drop] using this
    have hl'len : l'.length + i = l.length := by
      have := congrArg List.length d1
      simp only [List.length_drop, List.length_cons, List.length_map] at this
      omega
    obtain ⟨v, hv, q, la, rfl, e1, e2⟩ := hA.get' hy
    have hat : atI rs (0 + (i : Int)) = some (.ref q) := by rw [Int.zero_add]; exact atI_nat hv
    have hy2 := hah2 y (List.mem_of_getElem? hy)
    refine ⟨_, rfl, _, rfl, .inl ⟨pt, _, _, _, rfl, rfl, SqL.of (sm _ _ hpt), hat, .inr (.inl ⟨q, _, 1, _, rfl, rfl, SqT.of (sm _ _ e1), rfl, ?_⟩)⟩⟩
    refine ⟨fun σ' H'' => H' = H'' ∧ σ' = [some (.ref pt), some (.ref ps), some (.str (tx zl)), some (.str (tx T)), some (.int (0 + (i : Int))), some (.str (tx (mk1 L y l').x))], ?_, ?_⟩
    · refine ⟨_, rfl, .inl ⟨_, _, rfl, rfl, _, rfl, _, _, rfl, .inl ⟨_, SqL.of (sm _ _ hpt), rfl⟩, .inl ⟨rfl, _, rfl, ?_⟩⟩⟩
      by_cases hil : l' = []
      · subst hil
        refine ifT (decide_eq_true (show V.int (0 + (i : Int) + 1) = V.int ((rs.length : Nat) : Int) from congrArg V.int (by rw [hrl]; simp only [List.length_nil] at hl'len; omega))) ⟨_, rfl, .inl ⟨rfl, _, rfl, ?_⟩⟩
        rw [K10.eq_lit (l := []) (by decide)]
        have hx : (mk1 L y []).x = if zl = [] then y.nm else zl := (hL y).2
        rw [hx]
        by_cases hz : zl = []
        · rw [if_pos hz]
          exact ifF (by simp [hz]) ⟨rfl, rfl⟩
        · rw [if_neg hz]
          exact ifT (by simp [hz]) ⟨_, rfl, rfl, rfl⟩
      · obtain ⟨p, r, rfl⟩ : ∃ p r, l' = p :: r := by
          cases l' with
          | nil => exact absurd rfl hil
          | cons p r => exact ⟨p, r, rfl⟩
        refine ifF (fun h => by have h := of_decide_eq_true h; injection h with h; rw [hrl] at h; simp only [List.length_cons] at hl'len; omega) ?_
        exact ifF (by decide) ⟨rfl, rfl⟩
    rintro σ' H'' ⟨rfl, rfl⟩
    have hmk : (mk1 L y l').t.ah = y.ah := by
      cases l' with
      | nil => exact (hL y).1
      | cons p r => rfl
    have htt : ttxt (mk1 L y l') = wtxt y.ah ++ (mk1 L y l').x := by unfold ttxt; rw [hmk]
    have hTl : T.length + (ttxt (mk1 L y l')).length ≤ 1000 := by
      rw [← hT] at hlen
      simp only [rowTx, List.length_append] at hlen
      omega
    generalize (mk1 L y l').x = nm at htt ⊢
    have hsum := wtxt_sum y.ah nm
    rw [← htt] at hsum
    refine ⟨_, rfl, rfl, _, rfl, _, rfl, .inl ⟨pt, _, _, _, rfl, rfl, SqL.of (sm _ _ hpt), hat, .inr (.inl ⟨q, _, 0, _, rfl, rfl, SqT.of (sm _ _ e1), rfl, ?_⟩)⟩⟩
    refine ⟨_, rfl, z1, fun p1 hp1 => ?_⟩
    have s1 := same_new hp1 (.lst [V.str (tx nm)])
    refine .inr (.inr ⟨la, p1, _, _, rfl, rfl, s1 _ _ (sm _ _ e2), upd_same, by simp only [List.length_map, List.length_cons, List.length_nil]; omega, fun p2 hp2 => ?_⟩)
    have s2 := s1.trans (same_new hp2 (.lst (wds y.ah ++ [V.str (tx nm)])))
    have hp22 : (upd (upd H' p1 (.lst [V.str (tx nm)])) p2 (.lst (wds y.ah ++ [V.str (tx nm)]))) p2 = some (.lst (((y.ah ++ [nm]).map tx).map V.str)) := by rw [upd_same]; simp [wds]
    have ij : Is (Txt.join (" " : Str) ((y.ah ++ [nm]).map tx)) (ttxt (mk1 L y l')) := by
      have := Is.join (ls := y.ah ++ [nm]) lit_sp rfl
      rw [inter_wtxt, ← htt] at this
      exact this
    have iT : Is (tx T) T := rfl
    have sm2 := sm.trans s2
    generalize upd (upd H' p1 (.lst [V.str (tx nm)])) p2 (.lst (wds y.ah ++ [V.str (tx nm)])) = H2 at s2 hp22 sm2 ⊢
    refine ⟨" ", p2, (y.ah ++ [nm]).map tx, rfl, rfl, .inl (SqL.of hp22), ?_, .inr (.inl ⟨_, _, rfl, rfl, cat_ok iT ij (by omega), ?_⟩)⟩
    · rw [sum_len, List.length_map, List.length_append, lit_sp.len]
      simp only [List.length_cons, List.length_nil]
      omega
    have i2 := iT.app ij
    generalize hz2 : tx T ++ Txt.join (" " : Str) ((y.ah ++ [nm]).map tx) = z2 at i2 ⊢
    refine ⟨_, ?_, fun _ _ h => h⟩
    refine ⟨_, rfl, _, rfl, _, _, rfl, .inl ⟨_, SqL.of (sm2 _ _ hps), rfl⟩, _, _, rfl, rfl, _, rfl, ite2 (fun c1 => ?_) (fun c1 => ?_)⟩
    · have c1 : 0 + (i : Int) < (((wds (ssOf l)).length : Nat) : Int) := of_decide_eq_true c1
      rw [List.length_map, List.length_map] at c1
      obtain ⟨⟨sn, y'⟩, l2, rfl⟩ : ∃ p r, l' = p :: r := by
        cases l' with
        | nil => simp only [List.length_nil] at hl'len; omega
        | cons p r => exact ⟨p, r, rfl⟩
      have hsn : (ssOf l)[i]? = some sn := by
        have := congrArg (·[0]?) d2
        simpa [List.getElem?_drop] using this
      have hats : atI (wds (ssOf l)) (0 + (i : Int)) = some (.str (tx sn)) := by rw [Int.zero_add]; exact atI_nat (by rw [List.getElem?_map, hsn]; rfl)
      rw [rowTx_cons] at hT
      have hTl2 : T.length + (ttxt (mk1 L y ((sn, y') :: l2))).length + sn.length + 2 ≤ 1000 := by
        rw [← hT] at hlen
        simp only [List.length_append, List.length_cons, List.length_nil] at hlen
        omega
      have isn : Is (tx sn) sn := rfl
      have i3 := i2.app lit_sp
      have i4 := i3.app isn
      have i5 := i4.app lit_sp
      refine ⟨_, rfl, .inr (.inl ⟨_, _, rfl, rfl, cat_ok i2 lit_sp (by simp only [List.length_append, List.length_cons, List.length_nil]; omega), _, rfl, _, rfl, .inl ⟨ps, _, _, _, rfl, rfl, SqL.of (sm2 _ _ hps), hats, .inr (.inl ⟨_, _, rfl, rfl, cat_ok i3 isn (by simp only [List.length_append, List.length_cons, List.length_nil]; omega), .inr (.inl ⟨_, _, rfl, rfl, cat_ok i4 lit_sp (by simp only [List.length_append, List.length_cons, List.length_nil]; omega), ?_⟩)⟩)⟩⟩)⟩
      refine ⟨_, _, _, by rw [show z2 ++ (" " : Str) ++ tx sn ++ (" " : Str) = _ from i5]; rfl, sm2, .inr ⟨y', l2, ?_, ?_, by rw [← hT]; simp [rowTx]⟩⟩
      · rw [← List.drop_drop, d1]; rfl
      · rw [← List.drop_drop, d2]; rfl
    · have c1 : ¬ (0 + (i : Int) < ((l.length : Nat) : Int)) := fun h => c1 (decide_eq_true (by rw [List.length_map, List.length_map]; exact h))
      have hil : i = l.length := by omega
      have hl0 : l' = [] := List.eq_nil_of_length_eq_zero (by omega)
      subst hl0
      refine ⟨_, _, _, by rw [show z2 = _ from i2]; rfl, sm2, .inl ⟨by omega, ?_⟩⟩
      rw [← hT, rowTx_nil]
  · rintro σ H' ⟨x4, x5, T, rfl, sm, hI⟩
    have hT : T = W := by
      rcases hI with ⟨_, h⟩ | ⟨y, l', d1, d2, hT⟩
      · exact h
      · have := congrArg List.length d1
        simp at this
    exact ⟨_, rfl, by rw [hT]; exact qq H' sm⟩
def spLong : Sp := fun vs H Q _ => ∃ (way : Nat) (px pr : Addr) (p0 p1 p2 : Pc) (v0 v1 v2 : V), vs = [.int (way : Nat), .ref px, .ref pr] ∧ H px = some (.lst [.str (tx p0.x), .str (tx p1.x), .str (tx p2.x)]) ∧ H pr = some (.lst [v0, v1, v2]) ∧ OpAt H p0.rs v0 ∧ OpAt H p1.rs v1 ∧ OpAt H p2.rs v2 ∧ p0.x.length ≤ 1000 ∧ p1.x.length ≤ 1000 ∧ p2.x.length ≤ 1000 ∧
  ∀ H' r v, Same H H' → H' r = some (.tup [.str (tx (lgX way p0 p1 p2)), v]) → (∀ t, lgR way p0 p1 p2 = some t → TmAt H' t v) → Q (.ref r) H'
theorem li0 : Is ("if " : Str) tIf := by show ("if " : Str) = _; decide +kernel
theorem li1 : Is (" then " : Str) tThen := by show (" then " : Str) = _; decide +kernel
theorem li2 : Is (" else " : Str) tElse := by show (" else " : Str) = _; decide +kernel
theorem li3 : Is ("let y = " : Str) tLet := by show ("let y = " : Str) = _; decide +kernel
theorem li4 : Is (" in " : Str) tIn := by show (" in " : Str) = _; decide +kernel
theorem li5 : Is ("fn y => " : Str) tFn := by show ("fn y => " : Str) = _; decide +kernel
theorem li6 : Is ("f(" : Str) tF := by show ("f(" : Str) = _; decide +kernel
theorem li7 : Is (", " : Str) tCo := by show (", " : Str) = _; decide +kernel
theorem li8 : Is (")" : Str) tSh := by show (")" : Str) = _; decide +kernel
theorem li9 : Is ("((" : Str) tOO := by show ("((" : Str) = _; decide +kernel
theorem li10 : Is ("))" : Str) tSS := by show ("))" : Str) = _; decide +kernel
theorem ok_law_long (F : Fun K "_law_long" "_law_long" s_law_long f fd) (B : NoG mg) : FnOk P w K mg base CX0 1 f fd ["_law_way", "_law_texts", "_law_trees"] spLong := by
  refine F.ok sc_law_long (fun vs H Q E h => ?_) (fun cdv A outer s H vs Q E hr h => ?_)
  · obtain ⟨way, px, pr, p0, p1, p2, v0, v1, v2, rfl, _⟩ := h
    rfl
  obtain ⟨way, px, pr, p0, p1, p2, v0, v1, v2, rfl, hpx, hpr, o0, o1, o2, l0, l1, l2, q⟩ := h
  have nd := sc_law_long.nd
  have hu := hr.units0
  have z2 : (2 : Nat) ≤ sizeLine := by decide
  have z3 : (3 : Nat) ≤ sizeLine := by decide
  have z4 : (4 : Nat) ≤ sizeLine := by decide
  have i0 : Is (tx p0.x) p0.x := rfl
  have i1 : Is (tx p1.x) p1.x := rfl
  have i2 : Is (tx p2.x) p2.x := rfl
  unfold lgX lgR at q
  refine ⟨_, (pss_cons (ps_if (pt_cmpR (kEq (K := K) hu) (pv 0) pe_int rfl) (pss_cons (ps_set (i := 3) nd rfl (Or.inl rfl) (pe_op uAdd (pe_op uAdd (pe_op uAdd (pe_op uAdd (pe_op uAdd pe_str (pe_ix (kIx (K := K) (w := w)) (pv 1) pe_int (fun _ _ => rfl))) pe_str) (pe_ix (kIx (K := K) (w := w)) (pv 1) pe_int (fun _ _ => rfl))) pe_str) (pe_ix (kIx (K := K) (w := w)) (pv 1) pe_int (fun _ _ => rfl))))
      (pss_one (ps_ret (pe_tup (pa_cons (pv 3) (pa_cons (pe_tup (pa_cons pe_str (pa_cons (pe_ix (kIx (K := K) (w := w)) (pv 2) pe_int (fun _ _ => rfl)) (pa_cons (pe_ix (kIx (K := K) (w := w)) (pv 2) pe_int (fun _ _ => rfl)) (pa_cons (pe_ix (kIx (K := K) (w := w)) (pv 2) pe_int (fun _ _ => rfl)) pa_nil))))) pa_nil)))))) pss_nil)
      (pss_cons (ps_if (pt_cmpR (kEq (K := K) hu) (pv 0) pe_int rfl) (pss_one (ps_ret (pe_tup (pa_cons (pe_op uAdd (pe_op uAdd (pe_op uAdd pe_str (pe_ix (kIx (K := K) (w := w)) (pv 1) pe_int (fun _ _ => rfl))) pe_str) (pe_ix (kIx (K := K) (w := w)) (pv 1) pe_int (fun _ _ => rfl))) (pa_cons (pe_tup (pa_cons pe_str (pa_cons pe_str (pa_cons (pe_ix (kIx (K := K) (w := w)) (pv 2) pe_int (fun _ _ => rfl)) (pa_cons (pe_ix (kIx (K := K) (w := w)) (pv 2) pe_int (fun _ _ => rfl)) pa_nil))))) pa_nil))))) pss_nil)
      (pss_cons (ps_if (pt_cmpR (kEq (K := K) hu) (pv 0) pe_int rfl) (pss_one (ps_ret (pe_tup (pa_cons (pe_op uAdd pe_str (pe_ix (kIx (K := K) (w := w)) (pv 1) pe_int (fun _ _ => rfl))) (pa_cons (pe_tup (pa_cons pe_str (pa_cons pe_str (pa_cons (pe_ix (kIx (K := K) (w := w)) (pv 2) pe_int (fun _ _ => rfl)) pa_nil)))) pa_nil))))) pss_nil)
      (pss_cons (ps_if (pt_cmpR (kEq (K := K) hu) (pv 0) pe_int rfl) (pss_one (ps_ret (pe_tup (pa_cons (pe_op uAdd (pe_op uAdd (pe_op uAdd (pe_op uAdd pe_str (pe_ix (kIx (K := K) (w := w)) (pv 1) pe_int (fun _ _ => rfl))) pe_str) (pe_ix (kIx (K := K) (w := w)) (pv 1) pe_int (fun _ _ => rfl))) pe_str) (pa_cons (pe_tup (pa_cons pe_str (pa_cons pe_str (pa_cons (pe_tup (pa_cons (pe_ix (kIx (K := K) (w := w)) (pv 2) pe_int (fun _ _ => rfl)) (pa_cons (pe_ix (kIx (K := K) (w := w)) (pv 2) pe_int (fun _ _ => rfl)) pa_nil))) pa_nil)))) pa_nil))))) pss_nil)
      (pss_one (ps_ret (pe_tup (pa_cons (pe_op uAdd (pe_op uAdd pe_str (pe_ix (kIx (K := K) (w := w)) (pv 1) pe_int (fun _ _ => rfl))) pe_str) (pa_cons (pe_ix (kIx (K := K) (w := w)) (pv 2) pe_int (fun _ _ => rfl)) pa_nil))))))))), ?_⟩
  refine ⟨_, rfl, .inl ⟨rfl, _, rfl, ite2 (fun c1 => ?_) (fun c1 => ?_)⟩⟩
  · have c1 : way = 1 := of_decide_eq_true ((int_dec way 1) ▸ c1)
    simp only [if_pos c1] at q
    have j1 := li0.app i1
    have j2 := j1.app li1
    have j3 := j2.app i2
    have j4 := j3.app li2
    have j5 := j4.app i0
    have eT : tIf ++ (p1.x ++ (tThen ++ (p2.x ++ (tElse ++ p0.x)))) = tIf ++ p1.x ++ tThen ++ p2.x ++ tElse ++ p0.x := by simp only [List.append_assoc]
    rw [eT, ← show _ = tx _ from j5] at q
    refine ⟨_, rfl, .inl ⟨px, _, 1, _, rfl, rfl, SqL.of hpx, rfl, .inr (.inl ⟨_, _, rfl, rfl, cat_ok li0 i1 (by simp only [List.length_append, List.length_cons, List.length_nil]; omega), .inr (.inl ⟨_, _, rfl, rfl, cat_ok j1 li1 (by simp only [List.length_append, List.length_cons, List.length_nil]; omega), _, rfl, .inl ⟨px, _, 2, _, rfl, rfl, SqL.of hpx, rfl, .inr (.inl ⟨_, _, rfl, rfl, cat_ok j2 i2 (by simp only [List.length_append, List.length_cons, List.length_nil]; omega), .inr (.inl ⟨_, _, rfl, rfl, cat_ok j3 li2 (by simp only [List.length_append, List.length_cons, List.length_nil]; omega), _, rfl, .inl ⟨px, _, 0, _, rfl, rfl, SqL.of hpx, rfl, .inr (.inl ⟨_, _, rfl, rfl, cat_ok j4 i0 (by simp only [List.length_append, List.length_cons, List.length_nil]; omega), ?_⟩)⟩⟩)⟩)⟩⟩)⟩)⟩⟩
    refine ⟨_, rfl, _, rfl, .inl ⟨pr, _, 1, _, rfl, rfl, SqL.of hpr, rfl, _, rfl, .inl ⟨pr, _, 2, _, rfl, rfl, SqL.of hpr, rfl, _, rfl, .inl ⟨pr, _, 0, _, rfl, rfl, SqL.of hpr, rfl, z4, fun pa hpa => ⟨z2, fun r hr => ?_⟩⟩⟩⟩⟩
    have s1 := same_new hpa (.tup [.str "if", v1, v2, v0])
    have s2 := s1.trans (same_new hr (.tup [.str ("if " ++ tx p1.x ++ " then " ++ tx p2.x ++ " else " ++ tx p0.x), .ref pa]))
    refine q _ r (.ref pa) s2 upd_same (fun t ht => ?_)
    obtain ⟨a, ha, ht⟩ := Option.bind_eq_some_iff.mp ht
    obtain ⟨b, hb, ht⟩ := Option.bind_eq_some_iff.mp ht
    obtain ⟨d, hd, rfl⟩ := Option.map_eq_some_iff.mp ht
    exact .if_ (same_new hr _ _ _ upd_same) ((o1.same s2).some_ ha) ((o2.same s2).some_ hb) ((o0.same s2).some_ hd)
  have c1 : way ≠ 1 := fun h => c1 ((int_dec way 1) ▸ decide_eq_true h)
  simp only [if_neg c1] at q
  refine ⟨_, rfl, .inl ⟨rfl, _, rfl, ite2 (fun c2 => ?_) (fun c2 => ?_)⟩⟩
  · have c2 : way = 2 := of_decide_eq_true ((int_dec way 2) ▸ c2)
    simp only [if_pos c2] at q
    have j1 := li3.app i1
    have j2 := j1.app li4
    have j3 := j2.app i0
    have eT : tLet ++ (p1.x ++ (tIn ++ p0.x)) = tLet ++ p1.x ++ tIn ++ p0.x := by simp only [List.append_assoc]
    rw [eT, ← show _ = tx _ from j3] at q
    refine ⟨_, rfl, .inl ⟨px, _, 1, _, rfl, rfl, SqL.of hpx, rfl, .inr (.inl ⟨_, _, rfl, rfl, cat_ok li3 i1 (by simp only [List.length_append, List.length_cons, List.length_nil]; omega), .inr (.inl ⟨_, _, rfl, rfl, cat_ok j1 li4 (by simp only [List.length_append, List.length_cons, List.length_nil]; omega), _, rfl, .inl ⟨px, _, 0, _, rfl, rfl, SqL.of hpx, rfl, .inr (.inl ⟨_, _, rfl, rfl, cat_ok j2 i0 (by simp only [List.length_append, List.length_cons, List.length_nil]; omega), ?_⟩)⟩⟩)⟩)⟩⟩
    refine ⟨_, rfl, .inl ⟨pr, _, 1, _, rfl, rfl, SqL.of hpr, rfl, _, rfl, .inl ⟨pr, _, 0, _, rfl, rfl, SqL.of hpr, rfl, z4, fun pa hpa => ⟨z2, fun r hr => ?_⟩⟩⟩⟩
    have s1 := same_new hpa (.tup [.str "let", .str "y", v1, v0])
    have s2 := s1.trans (same_new hr (.tup [.str ("let y = " ++ tx p1.x ++ " in " ++ tx p0.x), .ref pa]))
    refine q _ r (.ref pa) s2 upd_same (fun t ht => ?_)
    obtain ⟨a, ha, ht⟩ := Option.bind_eq_some_iff.mp ht
    obtain ⟨d, hd, rfl⟩ := Option.map_eq_some_iff.mp ht
    refine .let_ (x := [121]) (v := v1) (w := v0) ?_ ((o1.same s2).some_ ha) ((o0.same s2).some_ hd)
    rw [← lit_y]
    exact same_new hr _ _ _ upd_same
  have c2 : way ≠ 2 := fun h => c2 ((int_dec way 2) ▸ decide_eq_true h)
  simp only [if_neg c2] at q
  refine ⟨_, rfl, .inl ⟨rfl, _, rfl, ite2 (fun c3 => ?_) (fun c3 => ?_)⟩⟩
  · have c3 : way = 3 := of_decide_eq_true ((int_dec way 3) ▸ c3)
    simp only [if_pos c3] at q
    have j1 := li5.app i0
    rw [← show _ = tx _ from j1] at q
    refine ⟨_, rfl, .inl ⟨px, _, 0, _, rfl, rfl, SqL.of hpx, rfl, .inr (.inl ⟨_, _, rfl, rfl, cat_ok li5 i0 (by simp only [List.length_append, List.length_cons, List.length_nil]; omega), ?_⟩)⟩⟩
    refine ⟨_, rfl, .inl ⟨pr, _, 0, _, rfl, rfl, SqL.of hpr, rfl, z3, fun pa hpa => ⟨z2, fun r hr => ?_⟩⟩⟩
    have s1 := same_new hpa (.tup [.str "fn", .str "y", v0])
    have s2 := s1.trans (same_new hr (.tup [.str ("fn y => " ++ tx p0.x), .ref pa]))
    refine q _ r (.ref pa) s2 upd_same (fun t ht => ?_)
    obtain ⟨d, hd, rfl⟩ := Option.map_eq_some_iff.mp ht
    refine .fn (x := [121]) (v := v0) ?_ ((o0.same s2).some_ hd)
    rw [← lit_y]
    exact same_new hr _ _ _ upd_same
  have c3 : way ≠ 3 := fun h => c3 ((int_dec way 3) ▸ decide_eq_true h)
  simp only [if_neg c3] at q
  refine ⟨_, rfl, .inl ⟨rfl, _, rfl, ite2 (fun c4 => ?_) (fun c4 => ?_)⟩⟩
  · have c4 : way = 4 := of_decide_eq_true ((int_dec way 4) ▸ c4)
    simp only [if_pos c4] at q
    have j1 := li6.app i0
    have j2 := j1.app li7
    have j3 := j2.app i1
    have j4 := j3.app li8
    have eT : tF ++ (p0.x ++ (tCo ++ (p1.x ++ tSh))) = tF ++ p0.x ++ tCo ++ p1.x ++ tSh := by simp only [List.append_assoc]
    rw [eT, ← show _ = tx _ from j4] at q
    refine ⟨_, rfl, .inl ⟨px, _, 0, _, rfl, rfl, SqL.of hpx, rfl, .inr (.inl ⟨_, _, rfl, rfl, cat_ok li6 i0 (by simp only [List.length_append, List.length_cons, List.length_nil]; omega), .inr (.inl ⟨_, _, rfl, rfl, cat_ok j1 li7 (by simp only [List.length_append, List.length_cons, List.length_nil]; omega), _, rfl, .inl ⟨px, _, 1, _, rfl, rfl, SqL.of hpx, rfl, .inr (.inl ⟨_, _, rfl, rfl, cat_ok j2 i1 (by simp only [List.length_append, List.length_cons, List.length_nil]; omega), .inr (.inl ⟨_, _, rfl, rfl, cat_ok j3 li8 (by simp only [List.length_append, List.length_cons, List.length_nil]; omega), ?_⟩)⟩)⟩⟩)⟩)⟩⟩
    refine ⟨_, rfl, .inl ⟨pr, _, 0, _, rfl, rfl, SqL.of hpr, rfl, _, rfl, .inl ⟨pr, _, 1, _, rfl, rfl, SqL.of hpr, rfl, z2, fun pb hpb => ⟨z3, fun pa hpa => ⟨z2, fun r hr => ?_⟩⟩⟩⟩⟩
    have s0 := same_new hpb (.tup [v0, v1])
    have s1 := same_new hpa (.tup [.str "call", .str "f", .ref pb])
    have s3 := same_new hr (.tup [.str ("f(" ++ tx p0.x ++ ", " ++ tx p1.x ++ ")"), .ref pa])
    have s2 := s0.trans (s1.trans s3)
    refine q _ r (.ref pa) s2 upd_same (fun t ht => ?_)
    obtain ⟨a, ha, ht⟩ := Option.bind_eq_some_iff.mp ht
    obtain ⟨d, hd, rfl⟩ := Option.map_eq_some_iff.mp ht
    refine .call (x := [102]) (c := pb) (vs := [v0, v1]) ?_ ((s1.trans s3) _ _ upd_same) (.cons ((o0.same s2).some_ ha) (.cons ((o1.same s2).some_ hd) .nil))
    rw [← lit_f]
    exact s3 _ _ upd_same
  have c4 : way ≠ 4 := fun h => c4 ((int_dec way 4) ▸ decide_eq_true h)
  simp only [if_neg c4] at q
  have j1 := li9.app i0
  have j2 := j1.app li10
  have eT : tOO ++ (p0.x ++ tSS) = tOO ++ p0.x ++ tSS := by simp only [List.append_assoc]
  rw [eT, ← show _ = tx _ from j2] at q
  refine ⟨_, rfl, .inl ⟨px, _, 0, _, rfl, rfl, SqL.of hpx, rfl, .inr (.inl ⟨_, _, rfl, rfl, cat_ok li9 i0 (by simp only [List.length_append, List.length_cons, List.length_nil]; omega), .inr (.inl ⟨_, _, rfl, rfl, cat_ok j1 li10 (by simp only [List.length_append, List.length_cons, List.length_nil]; omega), ?_⟩)⟩)⟩⟩
  refine ⟨_, rfl, .inl ⟨pr, _, 0, _, rfl, rfl, SqL.of hpr, rfl, z2, fun r hr => ?_⟩⟩
  have s2 := same_new hr (.tup [.str ("((" ++ tx p0.x ++ "))"), v0])
  exact q _ r v0 s2 upd_same (fun t ht => (o0.same s2).some_ ht)
end
end RD
set_option maxHeartbeats 4000000
namespace RD
open PySem L2
seal PE PT PW PA PS PSs PTs PI PG PGs PO PEX PSX
abbrev s_law_tree : Stmt := top 46
theorem sc_law_tree : FnScope ["_law_things", "_law_signs", "_law_last_here", "_law_k", "_law_found", "_law_left"] ["_law_things", "_law_signs", "_law_last_here"] (defScope s_law_tree) := ⟨rfl, rfl, rfl, by decide +kernel, rfl, by decide +kernel, by decide +kernel⟩
theorem lit_td : ("*/" : Str) = tx [42, 47] := by decide +kernel
theorem lit_pm : ("+-" : Str) = tx [43, 45] := by decide +kernel
theorem Lrok.len2 {x : Lt} {l : Lr} (h : Lrok x l) : ∀ y ∈ xsOf x l, y.ah.length ≤ 2 := by
  intro y hy
  rcases List.mem_cons.mp hy with rfl | hy
  · exact h.1.len
  · obtain ⟨p, hp, rfl⟩ := List.mem_map.mp hy
    exact (h.2 p hp).2.len
section
variable {P : Program} {w : World} {K : PySem.W.Frag} {mg : Str → Option Value} {base : Heap} {f f_law_applied f_law_from_left f_law_from_right : Addr} {fd d_law_applied d_law_from_left d_law_from_right : FuncData}
def spTree : Sp := fun vs H Q _ => ∃ (pt ps : Addr) (lv : V) (x : Lt) (l : Lr) (last : Option Tm) (L : Lt → Tx), vs = [.ref pt, .ref ps, lv] ∧ ThsAt H pt (xsOf x l) ∧ H ps = some (.lst (wds (ssOf l))) ∧ Lrok x l ∧ l.length ≤ 50 ∧ OpAt H last lv ∧ (∀ y, (L y).t.ah = y.ah ∧ (L y).t.rs = some (lastT last y)) ∧
  ∀ H' v, Same H H' → OpAt H' (rowTr (mk1 L x l) (mk2 L x l)) v → Q v H'
theorem ok_law_tree (F : Fun K "_law_tree" "_law_tree" s_law_tree f fd) (B : NoG mg)
    (G_law_applied : FnOk P w K mg base CX0 1 f_law_applied d_law_applied ["_law_things", "_law_signs", "_law_last_here"] spApp) (b_law_applied : Binds K d_law_applied ["_law_things", "_law_signs", "_law_last_here"] []) (k_law_applied : PySem.W.keepIn K (.ref f_law_applied) = true) (m_law_applied : mg "_law_applied" = some (.ref f_law_applied))
    (G_law_from_left : FnOk P w K mg base CX0 1 f_law_from_left d_law_from_left ["_law_found", "_law_signs", "_law_some"] spFL) (b_law_from_left : Binds K d_law_from_left ["_law_found", "_law_signs", "_law_some"] []) (k_law_from_left : PySem.W.keepIn K (.ref f_law_from_left) = true) (m_law_from_left : mg "_law_from_left" = some (.ref f_law_from_left))
    (G_law_from_right : FnOk P w K mg base CX0 1 f_law_from_right d_law_from_right ["_law_found", "_law_signs"] spFR) (b_law_from_right : Binds K d_law_from_right ["_law_found", "_law_signs"] []) (k_law_from_right : PySem.W.keepIn K (.ref f_law_from_right) = true) (m_law_from_right : mg "_law_from_right" = some (.ref f_law_from_right)) :
    FnOk P w K mg base CX0 2 f fd ["_law_things", "_law_signs", "_law_last_here"] spTree := by
  refine F.ok sc_law_tree (fun vs H Q E h => ?_) (fun cdv A outer s H vs Q E hr h => ?_)
  · obtain ⟨pt, ps, lv, x, l, last, L, rfl, _⟩ := h
    rfl
  obtain ⟨pt, ps, lv, x, l, last, L, rfl, ⟨rs, hpt, hA⟩, hps, hw, hl, hlast, hL, qq⟩ := h
  have nd := sc_law_tree.nd
  have hu := hr.units0
  have z0 : (0 : Nat) ≤ sizeLine := by decide
  have z4 : (4 : Nat) ≤ sizeLine := by decide
  have hrl : rs.length = l.length + 1 := by rw [← hA.len]; simp
  refine ⟨_, (pss_cons (ps_for PassesOwn.never rfl (pi_range2 rfl B.range_ (pa_cons pe_int (pa_cons (pe_callB (k_len (K := K)) rfl B.len_ bt_len (pa_cons (pv 0) pa_nil)) pa_nil))) (pg_name (i := 3) nd rfl (Or.inl rfl)) (pss_one (ps_cut (ps_if (PW.pt (pw_and (pt_cmpR (kEq (K := K) hu) (pe_ix (kIx (K := K) (w := w)) (pv 1) (pe_op op_sub (pv 3) pe_int) (fun _ _ => rfl)) pe_str rfl) (pw_and1 (pt_cmpR (kNeL (K := K) hu) (pe_ix (kIx (K := K) (w := w)) (pe_ix (kIx (K := K) (w := w)) (pv 0) (pv 3) (fun _ _ => rfl)) pe_int (fun _ _ => rfl)) (pe_lst pa_nil) rfl)))) (pss_one (ps_ret pe_non)) pss_nil))))
      (pss_cons (ps_asg (pe_call G_law_applied (hr.mono (by first | decide | omega)) rfl m_law_applied k_law_applied b_law_applied .nil pass0 (pa_cons (pv 0) (pa_cons (pv 1) (pa_cons (pv 2) pa_nil)))) (pg_tup rfl (pgs_cons (pg_name (i := 4) nd rfl (Or.inl rfl)) (pgs_cons (pg_name (i := 5) nd rfl (Or.inl rfl)) pgs_nil))))
      (pss_cons (ps_asg (pe_call G_law_from_left (hr.mono (by first | decide | omega)) rfl m_law_from_left k_law_from_left b_law_from_left .nil pass0 (pa_cons (pv 4) (pa_cons (pv 5) (pa_cons pe_str pa_nil)))) (pg_tup rfl (pgs_cons (pg_name (i := 4) nd rfl (Or.inl rfl)) (pgs_cons (pg_name (i := 5) nd rfl (Or.inl rfl)) pgs_nil))))
      (pss_cons (ps_asg (pe_call G_law_from_left (hr.mono (by first | decide | omega)) rfl m_law_from_left k_law_from_left b_law_from_left .nil pass0 (pa_cons (pv 4) (pa_cons (pv 5) (pa_cons pe_str pa_nil)))) (pg_tup rfl (pgs_cons (pg_name (i := 4) nd rfl (Or.inl rfl)) (pgs_cons (pg_name (i := 5) nd rfl (Or.inl rfl)) pgs_nil))))
      (pss_cons (ps_asg (pe_call G_law_from_right (hr.mono (by first | decide | omega)) rfl m_law_from_right k_law_from_right b_law_from_right .nil pass0 (pa_cons (pv 4) (pa_cons (pv 5) pa_nil))) (pg_tup rfl (pgs_cons (pg_name (i := 4) nd rfl (Or.inl rfl)) (pgs_cons (pg_name (i := 5) nd rfl (Or.inl rfl)) pgs_nil))))
      (pss_cons (ps_if (pt_cmpR op_gt (pe_callB (k_len (K := K)) rfl B.len_ bt_len (pa_cons (pv 5) pa_nil)) pe_int rfl) (pss_one (ps_ret pe_non)) pss_nil)
      (pss_cons (ps_if (pt_cmpR (kEq (K := K) hu) (pe_callB (k_len (K := K)) rfl B.len_ bt_len (pa_cons (pv 5) pa_nil)) pe_int rfl) (pss_one (ps_ret (pe_tup (pa_cons pe_str (pa_cons (pe_ix (kIx (K := K) (w := w)) (pv 5) pe_int (fun _ _ => rfl)) (pa_cons (pe_ix (kIx (K := K) (w := w)) (pv 4) pe_int (fun _ _ => rfl)) (pa_cons (pe_ix (kIx (K := K) (w := w)) (pv 4) pe_int (fun _ _ => rfl)) pa_nil))))))) pss_nil)
      (pss_one (ps_ret (pe_ix (kIx (K := K) (w := w)) (pv 4) pe_int (fun _ _ => rfl))))))))))), ?_⟩
  refine ⟨_, rfl, _, _, rfl, .inl ⟨_, SqL.of hpt, rfl⟩, _, _, rfl, ⟨by decide, by decide, by omega, by rw [hrl]; omega⟩, ?_⟩
  rw [show ((((rs.length : Nat) : Int)) - 1).toNat = l.length by rw [hrl]; omega]
  refine for_range (n := l.length) (lo := 1) (fun i σ H' => ∃ (x3 : Option V), σ = [some (.ref pt), some (.ref ps), some lv, x3, none, none] ∧ Same H H' ∧ ∀ j p, j < i → l[j]? = some p → p.1 = wBang → p.2.ah = []) ?_ ?_ ?_
  · exact ⟨none, rfl, Same.refl _, fun j p h => by omega⟩
  · rintro i σ H' hi ⟨x3, rfl, sm, hI⟩
    obtain ⟨⟨sn, y⟩, hp⟩ : ∃ p, l[i]? = some p := ⟨_, List.getElem?_eq_getElem hi⟩
    have hy : (xsOf x l)[i + 1]? = some y := by rw [List.getElem?_cons_succ, List.getElem?_map, hp]; rfl
    obtain ⟨v, hv, q, la, rfl, e1, e2⟩ := hA.get' hy
    have hat : atI rs (1 + (i : Int)) = some (.ref q) := by rw [show 1 + (i : Int) = ((i + 1 : Nat) : Int) by omega]; exact atI_nat hv
    have has : atI (wds (ssOf l)) (1 + (i : Int) - 1) = some (.str (tx sn)) := by
      rw [show 1 + (i : Int) - 1 = ((i : Nat) : Int) by omega]
      exact atI_nat (by rw [List.getElem?_map, List.getElem?_map, hp]; rfl)
    refine ⟨_, ?_, fun _ _ h => h⟩
    refine ⟨_, rfl, _, rfl, _, _, rfl, rfl, .inl ⟨ps, _, _, _, rfl, rfl, SqL.of (sm _ _ hps), has, .inl ⟨rfl, _, rfl, ?_⟩⟩⟩
    rw [K10.eq_lit (l := wBang) (by decide +kernel)]
    by_cases hb : sn = wBang
    · refine ifT (decide_eq_true hb) ?_
      refine ⟨_, rfl, _, rfl, .inl ⟨pt, _, _, _, rfl, rfl, SqL.of (sm _ _ hpt), hat, .inr (.inl ⟨q, _, 0, _, rfl, rfl, SqT.of (sm _ _ e1), rfl, z0, fun pe hpe => ?_⟩)⟩⟩
      have s1 := same_new hpe (.lst [])
      have hla := s1 _ _ (sm _ _ e2)
      by_cases ha : y.ah = []
      · rw [ha] at hla
        refine .inl ⟨la, pe, _, rfl, rfl, SqL.of hla, SqL.of upd_same, rfl, _, rfl, ifF (by decide) ?_⟩
        refine ⟨_, rfl, sm.trans s1, fun j p hj hp' hb' => ?_⟩
        rcases Nat.lt_or_ge j i with h | h
        · exact hI j p h hp' hb'
        · have : j = i := by omega
          subst this
          rw [hp] at hp'; cases hp'
          exact ha
      · refine .inr ⟨la, pe, _, _, rfl, rfl, SqL.of hla, SqL.of upd_same, by simpa using ha, _, rfl, ifT rfl ?_⟩
        refine qq _ _ (sm.trans s1) ?_
        rw [rowTr_bad (fun y => (hL y).1) (List.mem_of_getElem? hp) hb ha]
        rfl
    · refine ifF (by simp [hb]) (ifF (by decide) ?_)
      refine ⟨_, rfl, sm, fun j p hj hp' hb' => ?_⟩
      rcases Nat.lt_or_ge j i with h | h
      · exact hI j p h hp' hb'
      · have : j = i := by omega
        subst this
        rw [hp] at hp'; cases hp'
        exact absurd hb' hb
  rintro σ H1 ⟨x3, rfl, s1, hI⟩
  have hno : NoBad l := fun p hp hb => by
    obtain ⟨j, hj⟩ := List.getElem?_of_mem hp
    exact hI j p (List.getElem?_eq_some_iff.mp hj).1 hj hb
  obtain ⟨q, g1, g2, g3⟩ := rowTr_good (x := x) hL hno
  rw [g3] at qq
  have hsg : ∀ s ∈ sg q, Sgn s := by
    intro s hs
    rw [g2] at hs
    obtain ⟨p, hp, rfl⟩ := sgnG_mem hs
    exact (hw.2 p hp).1
  have hqlen : q.2.length ≤ 100 := by
    have h1 := congrArg List.length g1
    have h2 := grpG_len (lm2 (lastT last) x l) x.ah (lm1 (lastT last) x l)
    rw [lm2_len] at h2
    unfold ls at h1
    rw [List.length_cons, List.length_map, List.length_map] at h1
    omega
  refine ⟨_, rfl, _, rfl, _, rfl, pt, ps, lv, x, l, last, rfl, ThsAt.same ⟨rs, hpt, hA⟩ s1, s1 _ _ hps, hw, by omega, ?_, fun H2 r pf pl s2 hr2 hT2 hl2 => ?_⟩
  · cases last with
    | none => exact .inl ⟨hlast, rfl⟩
    | some t => exact .inr ⟨t, (hlast.same s1).some_ rfl, rfl⟩
  rw [← g1] at hT2
  rw [← g2] at hl2
  refine ⟨r, _, rfl, SqT.of hr2, rfl, _, _, rfl, _, _, rfl, rfl, ?_⟩
  refine ⟨_, rfl, _, rfl, pf, pl, _, [42, 47], 4, q, rfl, lit_td, fun s hs => (hsg s hs).s4, hT2, hl2, hqlen, fun H3 r3 pf3 pl3 s3 hr3 hT3 hl3 => ?_⟩
  have hq4 := fl_sub 4 q.2 q.1
  generalize hq4e : fl 4 q.1 q.2 = q4 at hT3 hl3 hq4
  refine ⟨r3, _, rfl, SqT.of hr3, rfl, _, _, rfl, _, _, rfl, rfl, ?_⟩
  refine ⟨_, rfl, _, rfl, pf3, pl3, _, [43, 45], 3, q4, rfl, lit_pm, fun s hs => (hsg s (hq4.2 s hs)).s3, hT3, hl3, by omega, fun H4 r4 pf4 pl4 s4 hr4 hT4 hl4 => ?_⟩
  have hq3 := fl_sub 3 q4.2 q4.1
  have e3 : lay3 q.1 q.2 = fl 3 q4.1 q4.2 := by unfold lay3; rw [hq4e]
  generalize hq3e : fl 3 q4.1 q4.2 = q3 at hT4 hl4 hq3 e3
  refine ⟨r4, _, rfl, SqT.of hr4, rfl, _, _, rfl, _, _, rfl, rfl, ?_⟩
  refine ⟨_, rfl, _, rfl, pf4, pl4, q3, rfl, hT4, hl4, by omega, fun H5 r5 pf5 pl5 s5 hr5 hT5 hl5 => ?_⟩
  have e2 : lay2 q.1 q.2 = fr q3.1 q3.2 := by unfold lay2; rw [e3]
  rw [e2] at qq
  generalize hq2e : fr q3.1 q3.2 = q2 at hT5 hl5 qq
  have sm := s1.trans (s2.trans (s3.trans (s4.trans s5)))
  refine ⟨r5, _, rfl, SqT.of hr5, rfl, _, _, rfl, _, _, rfl, rfl, ?_⟩
  obtain ⟨us, hpf5, hA5⟩ := hT5
  obtain ⟨q2a, q2r⟩ := q2
  unfold ls sg at *
  refine ⟨_, rfl, _, _, rfl, .inl ⟨_, SqL.of hl5, rfl⟩, _, _, rfl, rfl, _, rfl, ?_⟩
  rcases q2r with _ | ⟨⟨s', b⟩, _ | ⟨p2, r2⟩⟩
  · refine ifF (show ¬ decide ((1 : Int) < ((0 : Nat) : Int)) = true by decide) ⟨_, rfl, _, _, rfl, .inl ⟨_, SqL.of hl5, rfl⟩, .inl ⟨rfl, _, rfl, ifF (show ¬ decide (V.int ((0 : Nat) : Int) = V.int 1) = true by decide) ?_⟩⟩
    cases hA5 with
    | cons h t =>
      exact ⟨_, rfl, .inl ⟨pf5, _, 0, _, rfl, rfl, SqL.of hpf5, atI_nat (j := 0) rfl, qq _ _ sm h⟩⟩
  · refine ifF (show ¬ decide ((1 : Int) < ((1 : Nat) : Int)) = true by decide) ⟨_, rfl, _, _, rfl, .inl ⟨_, SqL.of hl5, rfl⟩, .inl ⟨rfl, _, rfl, ifT (show decide (V.int ((1 : Nat) : Int) = V.int 1) = true by decide) ?_⟩⟩
    obtain ⟨u0, u1, rfl, h, h'⟩ : ∃ u0 u1, us = [u0, u1] ∧ TmAt H5 q2a u0 ∧ TmAt H5 b u1 := by
      cases hA5 with
      | cons h t =>
        cases t with
        | cons h' t => cases t; exact ⟨_, _, rfl, h, h'⟩
    refine ⟨_, rfl, .inl ⟨pl5, _, 0, _, rfl, rfl, SqL.of hl5, atI_nat (j := 0) rfl, _, rfl, .inl ⟨pf5, _, 0, _, rfl, rfl, SqL.of hpf5, atI_nat (j := 0) rfl, _, rfl, .inl ⟨pf5, _, 1, _, rfl, rfl, SqL.of hpf5, atI_nat (j := 1) rfl, z4, fun p hp => ?_⟩⟩⟩⟩
    have s6 := same_new hp (.tup [.str "two", .str (tx s'), u0, u1])
    exact qq _ _ (sm.trans s6) (.two upd_same (h.mono (BU.tups_of s6)) (h'.mono (BU.tups_of s6)))
  · refine ifT (decide_eq_true (by simp only [List.length_map, List.length_cons]; omega)) ?_
    exact qq _ _ sm rfl
end
end RD
set_option maxHeartbeats 4000000
namespace RD
open PySem L2
seal PE PT PW PA PS PSs PTs PI PG PGs PO PEX PSX
abbrev s_law_last : Stmt := top 50
theorem sc_law_last : FnScope ["_law_script", "_law_way", "_law_texts", "_law_trees", "_law_k", "_law_many", "_law_things", "_law_signs", "_law_text_here", "_law_tree_here", "_law_wrap", "_law_used"] ["_law_script", "_law_way"] (defScope s_law_last) := ⟨rfl, rfl, rfl, by decide +kernel, rfl, by decide +kernel, by decide +kernel⟩
def preOf (k : Nat) : List Nat := if k = 1 then pre1 else if k = 2 then pre2 else pre3
theorem pre_at : ∀ k : Nat, k < 4 → 0 < k → atI [V.str "", V.str "if p then q else ", V.str "let z = r in ", V.str "fn z => "] (k : Int) = some (.str (tx (preOf k))) := by decide +kernel
theorem preOf_len (k : Nat) : (preOf k).length ≤ 20 := by unfold preOf; split; decide; split <;> decide
theorem pcW_x (k : Nat) (p : Pc) : (pcW k p).x = preOf k ++ p.x ∧ (pcW k p).rs = p.rs.map (wrapT k) := by
  have e1 : k = 1 → wrapT k = fun t => .if_ (.name [112]) (.name [113]) t := fun h => by funext t; unfold wrapT; rw [if_pos h]
  have e2 : k ≠ 1 → k = 2 → wrapT k = fun t => .let_ [122] (.name [114]) t := fun h h' => by funext t; unfold wrapT; rw [if_neg h, if_pos h']
  have e3 : k ≠ 1 → k ≠ 2 → wrapT k = fun t => .fn [122] t := fun h h' => by funext t; unfold wrapT; rw [if_neg h, if_neg h']
  unfold pcW preOf
  by_cases h1 : k = 1
  · rw [if_pos h1, if_pos h1, e1 h1]; exact ⟨rfl, rfl⟩
  · by_cases h2 : k = 2
    · rw [if_neg h1, if_pos h2, if_neg h1, if_pos h2, e2 h1 h2]; exact ⟨rfl, rfl⟩
    · rw [if_neg h1, if_neg h2, if_neg h1, if_neg h2, e3 h1 h2]; exact ⟨rfl, rfl⟩
theorem div_at : ∀ i : Nat, i < 3 → ∃ d ∈ [(1 : Int), 4, 16], atI [V.int 1, V.int 4, V.int 16] (0 + (i : Int)) = some (.int d) := by decide +kernel
theorem div_ok {d : Int} (h : d ∈ [(1 : Int), 4, 16]) : 0 < d ∧ d < 1073741824 := by
  have : d = 1 ∨ d = 4 ∨ d = 16 := by simpa using h
  omega
def usedN (way : Nat) : Nat := if way = 1 then 3 else if way = 2 then 2 else if way = 3 then 1 else if way = 4 then 2 else 1
theorem used_at : ∀ way : Nat, way < 6 → 0 < way → atI [V.int 0, V.int 3, V.int 2, V.int 1, V.int 2, V.int 1] (way : Int) = some (.int ((usedN way : Nat) : Int)) := by decide +kernel
theorem lgR_none {way : Nat} {p0 p1 p2 : Pc} (hw : 0 < way) : lgR way p0 p1 p2 = none ↔ ∃ o ∈ [p0.rs, p1.rs, p2.rs].take (usedN way), o = none := by
  unfold lgR usedN
  by_cases w1 : way = 1
  · simp only [if_pos w1]; cases p0.rs <;> cases p1.rs <;> cases p2.rs <;> simp
  by_cases w2 : way = 2
  · simp only [if_neg w1, if_pos w2]; cases p0.rs <;> cases p1.rs <;> simp
  by_cases w3 : way = 3
  · simp only [if_neg w1, if_neg w2, if_pos w3]; cases p0.rs <;> simp
  by_cases w4 : way = 4
  · simp only [if_neg w1, if_neg w2, if_neg w3, if_pos w4]; cases p0.rs <;> cases p1.rs <;> simp
  · simp only [if_neg w1, if_neg w2, if_neg w3, if_neg w4]; cases p0.rs <;> simp
theorem OpAt.tups {H H' : Hp} {o : Option Tm} {v : V} (h : OpAt H o v) (s : BU.Tups H H') : OpAt H' o v := by
  cases o with
  | none => exact h
  | some t => exact TmAt.mono s h
theorem OpAt.non_iff {H : Hp} {o : Option Tm} {v : V} (h : OpAt H o v) : v = .non ↔ o = none := by
  cases o with
  | none => exact ⟨fun _ => rfl, fun _ => h⟩
  | some t => exact ⟨fun e => absurd e (TmAt.not_non h), fun e => by cases e⟩
theorem cut_take (xs : List V) (n : Nat) : cutV xs none (some (n : Int)) = xs.take n := by
  have h : ¬ ((n : Int) < 0) := by omega
  unfold cutV HT.sIx
  simp [h]
section
variable {P : Program} {w : World} {K : PySem.W.Frag} {mg : Str → Option Value} {base : Heap} {f f_law_cell_at f_law_row f_law_text f_law_tree f_law_wrapped f_law_long : Addr} {fd d_law_cell_at d_law_row d_law_text d_law_tree d_law_wrapped d_law_long : FuncData}
def spLast (K : PySem.W.Frag) : Sp := fun vs H Q _ => ∃ (sa : Addr) (ns : List Int) (way : Nat), vs = [.ref sa, .int (way : Nat)] ∧ SqL K H sa (ns.map V.int) ∧ 0 < way ∧ way < 6 ∧
  ∀ H' r p0 p1 p2 v, Same H H' → p0.Ok 6 → p1.Ok 6 → p2.Ok 6 → H' r = some (.tup [.str (tx (lgX way p0 p1 p2)), v]) → OpAt H' (lgR way p0 p1 p2) v → Q (.ref r) H'
theorem ok_law_last (F : Fun K "_law_last" "_law_last" s_law_last f fd) (B : NoG mg)
    (G_law_cell_at : FnOk P w K mg base CX0 1 f_law_cell_at d_law_cell_at ["_law_script", "_law_k"] (spCell K)) (b_law_cell_at : Binds K d_law_cell_at ["_law_script", "_law_k"] []) (k_law_cell_at : PySem.W.keepIn K (.ref f_law_cell_at) = true) (m_law_cell_at : mg "_law_cell_at" = some (.ref f_law_cell_at))
    (G_law_row : FnOk P w K mg base CX0 1 f_law_row d_law_row ["_law_cells"] spRow12) (b_law_row : Binds K d_law_row ["_law_cells"] []) (k_law_row : PySem.W.keepIn K (.ref f_law_row) = true) (m_law_row : mg "_law_row" = some (.ref f_law_row))
    (G_law_text : FnOk P w K mg base CX0 1 f_law_text d_law_text ["_law_things", "_law_signs", "_law_last_here"] spText) (b_law_text : Binds K d_law_text ["_law_things", "_law_signs", "_law_last_here"] []) (k_law_text : PySem.W.keepIn K (.ref f_law_text) = true) (m_law_text : mg "_law_text" = some (.ref f_law_text))
    (G_law_tree : FnOk P w K mg base CX0 2 f_law_tree d_law_tree ["_law_things", "_law_signs", "_law_last_here"] spTree) (b_law_tree : Binds K d_law_tree ["_law_things", "_law_signs", "_law_last_here"] []) (k_law_tree : PySem.W.keepIn K (.ref f_law_tree) = true) (m_law_tree : mg "_law_tree" = some (.ref f_law_tree))
    (G_law_wrapped : FnOk P w K mg base CX0 1 f_law_wrapped d_law_wrapped ["_law_wrap", "_law_tree_here"] spWrap) (b_law_wrapped : Binds K d_law_wrapped ["_law_wrap", "_law_tree_here"] []) (k_law_wrapped : PySem.W.keepIn K (.ref f_law_wrapped) = true) (m_law_wrapped : mg "_law_wrapped" = some (.ref f_law_wrapped))
    (G_law_long : FnOk P w K mg base CX0 1 f_law_long d_law_long ["_law_way", "_law_texts", "_law_trees"] spLong) (b_law_long : Binds K d_law_long ["_law_way", "_law_texts", "_law_trees"] []) (k_law_long : PySem.W.keepIn K (.ref f_law_long) = true) (m_law_long : mg "_law_long" = some (.ref f_law_long)) :
    FnOk P w K mg base CX0 4 f fd ["_law_script", "_law_way"] (spLast K) := by
  refine F.ok sc_law_last (fun vs H Q E h => ?_) (fun cdv A outer s H vs Q E hr h => ?_)
  · obtain ⟨sa, ns, way, rfl, _⟩ := h
    rfl
  obtain ⟨sa, ns, way, rfl, hS, hw0, hw6, qq⟩ := h
  have nd := sc_law_last.nd
  have hu := hr.units0
  have z0 : (0 : Nat) ≤ sizeLine := by decide
  have z2 : (2 : Nat) ≤ sizeLine := by decide
  have z3 : (3 : Nat) ≤ sizeLine := by decide
  have z4 : (4 : Nat) ≤ sizeLine := by decide
  have z6 : (6 : Nat) ≤ sizeLine := by decide
  have zB : (1000 : Nat) < sizeLine := by decide
  refine ⟨_, (pss_cons (ps_set (i := 2) nd rfl (Or.inl rfl) (pe_lst pa_nil))
      (pss_cons (ps_set (i := 3) nd rfl (Or.inl rfl) (pe_lst pa_nil))
      (pss_cons (ps_for PassesOwn.never rfl (pi_range1 rfl B.range_ (pa_cons pe_int pa_nil)) (pg_name (i := 4) nd rfl (Or.inr rfl)) (pss_cons (ps_set (i := 5) nd rfl (Or.inl rfl) (pe_op uAdd pe_int (pe_op op_mod (pe_op op_fdiv (pe_call G_law_cell_at (hr.mono (by first | decide | omega)) rfl m_law_cell_at k_law_cell_at b_law_cell_at .nil pass0 (pa_cons (pv 0) (pa_cons pe_int pa_nil))) (pe_ix (kIx (K := K) (w := w)) (pe_lst (pa_cons pe_int (pa_cons pe_int (pa_cons pe_int pa_nil)))) (pv 4) (fun _ _ => rfl))) pe_int)))
      (pss_cons (ps_asg (pe_call G_law_row (hr.mono (by first | decide | omega)) rfl m_law_row k_law_row b_law_row .nil pass0 (pa_cons (pe_comp (CompScope.mk (N := ["_law_script", "_law_way", "_law_texts", "_law_trees", "_law_k", "_law_many", "_law_things", "_law_signs", "_law_text_here", "_law_tree_here", "_law_wrap", "_law_used"]) (sc := defScope s_law_last) (caps := [0, 4]) (ns := ["_law_script", "_law_k"]) (by decide +kernel) rfl (by decide +kernel) rfl (by decide +kernel) rfl (by decide +kernel) (by decide +kernel)) rfl rfl rfl (pi_range1 rfl B.range_ (pa_cons (pv 5) pa_nil)) (fun _ _ _ _ _ => pts_nil) (fun _ _ _ _ _ => (pe_call G_law_cell_at (hr.mono (by first | decide | omega)) rfl m_law_cell_at k_law_cell_at b_law_cell_at .nil pass0 (pa_cons (pv 1) (pa_cons (pe_op uAdd (pe_op uAdd pe_int (pe_op uMul pe_int (pv 2))) (pv 0)) pa_nil))))) pa_nil)) (pg_tup rfl (pgs_cons (pg_name (i := 6) nd rfl (Or.inl rfl)) (pgs_cons (pg_name (i := 7) nd rfl (Or.inl rfl)) pgs_nil))))
      (pss_cons (ps_set (i := 8) nd rfl (Or.inl rfl) (pe_call G_law_text (hr.mono (by first | decide | omega)) rfl m_law_text k_law_text b_law_text .nil pass0 (pa_cons (pv 6) (pa_cons (pv 7) (pa_cons pe_str pa_nil)))))
      (pss_cons (ps_set (i := 9) nd rfl (Or.inl rfl) (pe_call G_law_tree (hr.mono (by first | decide | omega)) rfl m_law_tree k_law_tree b_law_tree .nil pass0 (pa_cons (pv 6) (pa_cons (pv 7) (pa_cons pe_non pa_nil)))))
      (pss_cons (ps_set (i := 10) nd rfl (Or.inl rfl) (pe_op op_mod (pe_op op_fdiv (pe_op op_fdiv (pe_call G_law_cell_at (hr.mono (by first | decide | omega)) rfl m_law_cell_at k_law_cell_at b_law_cell_at .nil pass0 (pa_cons (pv 0) (pa_cons pe_int pa_nil))) pe_int) (pe_ix (kIx (K := K) (w := w)) (pe_lst (pa_cons pe_int (pa_cons pe_int (pa_cons pe_int pa_nil)))) (pv 4) (fun _ _ => rfl))) pe_int))
      (pss_cons (ps_cut (ps_if (PW.pt (pw_and (PW.pt (pw_or (pt_cmpR op_gt (pv 4) pe_int rfl) (pw_or1 (pt_cmpR (kEq (K := K) hu) (pv 1) pe_int rfl)))) (pw_and1 (pt_cmpR op_gt (pv 10) pe_int rfl)))) (pss_cons (ps_set (i := 8) nd rfl (Or.inl rfl) (pe_op uAdd (pe_ix (kIx (K := K) (w := w)) (pe_lst (pa_strs rfl)) (pv 10) (fun _ _ => rfl)) (pv 8)))
      (pss_one (ps_cut (ps_if (pt_cmpR op_notN (pv 9) pe_non rfl) (pss_one (ps_set (i := 9) nd rfl (Or.inl rfl) (pe_call G_law_wrapped (hr.mono (by first | decide | omega)) rfl m_law_wrapped k_law_wrapped b_law_wrapped .nil pass0 (pa_cons (pv 10) (pa_cons (pv 9) pa_nil))))) pss_nil)))) pss_nil))
      (pss_cons (ps_expr (k_bm (K := K) PySem.F.plainAttrs_list PySem.F.slot_list_append PySem.F.type_list_append mt_append (pv 2) (pa_cons (pv 8) pa_nil)))
      (pss_one (ps_expr (k_bm (K := K) PySem.F.plainAttrs_list PySem.F.slot_list_append PySem.F.type_list_append mt_append (pv 3) (pa_cons (pv 9) pa_nil))))))))))))
      (pss_cons (ps_asg (pe_call G_law_long (hr.mono (by first | decide | omega)) rfl m_law_long k_law_long b_law_long .nil pass0 (pa_cons (pv 1) (pa_cons (pv 2) (pa_cons (pv 3) pa_nil)))) (pg_tup rfl (pgs_cons (pg_name (i := 8) nd rfl (Or.inl rfl)) (pgs_cons (pg_name (i := 9) nd rfl (Or.inl rfl)) pgs_nil))))
      (pss_cons (ps_set (i := 11) nd rfl (Or.inl rfl) (pe_slice (kSl (K := K)) (pv 3) po_none (po_some (pe_ix (kIx (K := K) (w := w)) (pe_lst (pa_cons pe_int (pa_cons pe_int (pa_cons pe_int (pa_cons pe_int (pa_cons pe_int (pa_cons pe_int pa_nil))))))) (pv 1) (fun _ _ => rfl)))))
      (pss_cons (ps_if (pt_cmpR op_gt (pe_callB (k_len (K := K)) rfl B.len_ bt_len (pa_cons (pe_comp (CompScope.mk (N := ["_law_script", "_law_way", "_law_texts", "_law_trees", "_law_k", "_law_many", "_law_things", "_law_signs", "_law_text_here", "_law_tree_here", "_law_wrap", "_law_used"]) (sc := defScope s_law_last) (caps := []) (ns := []) (by decide +kernel) rfl (by decide +kernel) rfl (by decide +kernel) rfl (by decide +kernel) (by decide +kernel)) rfl rfl rfl (k_ilist (K := K) (pv 11)) (fun _ _ _ _ _ => (pts_one (pt_cmpR op_isN (pv 0) pe_non rfl))) (fun _ _ _ _ _ => (pv 0))) pa_nil)) pe_int rfl) (pss_one (ps_ret (pe_tup (pa_cons (pv 8) (pa_cons pe_non pa_nil))))) pss_nil)
      (pss_one (ps_ret (pe_tup (pa_cons (pv 8) (pa_cons (pv 9) pa_nil))))))))))), ?_⟩
  refine ⟨z0, fun px hpx => ⟨z0, fun pr hpr => ?_⟩⟩
  have n1 : px ≠ pr := ne_of_none (upd_same (H := H) (o := .lst [])) hpr
  have hHr : H pr = none := (same_new hpx (.lst [])).free hpr
  have s0 := (same_new hpx (.lst [])).trans (same_new hpr (.lst []))
  have f0 : (upd (upd H px (.lst [])) pr (.lst [])) px = some (.lst []) := by rw [upd_ne n1, upd_same]
  have f1 : (upd (upd H px (.lst [])) pr (.lst [])) pr = some (.lst []) := upd_same
  generalize upd (upd H px (.lst [])) pr (.lst []) = H0 at s0 f0 f1 ⊢
  refine ⟨_, rfl, by decide, by decide, ?_⟩
  refine for_range (n := 3) (lo := 0) (fun i σ H' => ∃ (x4 x5 x6 x7 x8 x9 x10 : Option V) (pcs : List Pc) (vs : List V), σ = [some (.ref sa), some (.int (way : Nat)), some (.ref px), some (.ref pr), x4, x5, x6, x7, x8, x9, x10, none] ∧ Same H H' ∧ H' px = some (.lst (pcs.map fun p => V.str (tx p.x))) ∧ H' pr = some (.lst vs) ∧ BU.All2 (fun p v => OpAt H' p.rs v) pcs vs ∧ pcs.length = i ∧ ∀ p ∈ pcs, p.Ok 6) ?_ ?_ ?_
  · exact ⟨none, none, none, none, none, none, none, [], [], rfl, s0, f0, f1, .nil, rfl, by simp⟩
  · rintro i σ H' hi ⟨x4, x5, x6, x7, x8, x9, x10, pcs, vs, rfl, sm, hx, hv, hA, hlen, hok⟩
    obtain ⟨d, hd, hdat⟩ := div_at i hi
    have hd1 := div_ok hd
    refine ⟨_, rfl, sa, ns, 1, rfl, sm.seq hS, by decide, fun c => ⟨z3, fun p1 hp1 => ?_⟩⟩
    have s1 := same_new hp1 (.lst [V.int 1, V.int 4, V.int 16])
    have hp11 : (upd H' p1 (.lst [V.int 1, V.int 4, V.int 16])) p1 = some (.lst [V.int 1, V.int 4, V.int 16]) := upd_same
    have sm1 := sm.trans s1
    have hx1 := s1 _ _ hx
    have hv1 := s1 _ _ hv
    have hA1 := hA.imp fun _ _ h => OpAt.same h s1
    generalize upd H' p1 (.lst [V.int 1, V.int 4, V.int 16]) = H1 at s1 hp11 sm1 hx1 hv1 hA1 ⊢
    refine ⟨_, rfl, .inl ⟨p1, _, _, _, rfl, rfl, SqL.of hp11, hdat, _, _, rfl, rfl, hd1, _, _, rfl, rfl, (by decide : (0 : Int) < 4), .inl ⟨_, _, rfl, rfl, ?_⟩⟩⟩
    obtain ⟨m, hm, hm4⟩ := mod_nat (c / d) (n := 4) (by decide)
    have hm : c / d % 4 = (m : Int) := hm
    dsimp only
    rw [hm, show (1 : Int) + (m : Int) = ((1 + m : Nat) : Int) by omega]
    refine ⟨_, rfl, _, rfl, by omega, by omega, ?_⟩
    rw [show (((1 + m : Nat) : Int)).toNat = 1 + m from rfl]
    refine comp_range (n := 1 + m) (lo := 0) (fun j ys H'' => H1 = H'' ∧ ∃ cs : List Int, ys = cs.map V.int ∧ cs.length = j) ⟨rfl, [], rfl, rfl⟩ ?_ ?_ ?_
    · rintro j ys H'' hj ⟨rfl, cs, rfl, hcs⟩
      rw [List.length_map]; omega
    · rintro j ys H'' hj ⟨rfl, cs, rfl, hcs⟩
      refine ⟨_, rfl, _, rfl, .inl ⟨_, _, rfl, rfl, .inl ⟨by decide, by decide⟩, .inl ⟨_, _, rfl, rfl, _, rfl, .inl ⟨_, _, rfl, rfl, sa, ns, _, rfl, sm1.seq hS, by omega, fun c2 => ⟨rfl, cs ++ [c2], by simp, by simp [hcs]⟩⟩⟩⟩⟩
    rintro ys H'' ⟨rfl, cs, rfl, hcs⟩ D hD
    have sD := same_new hD (.lst (cs.map V.int))
    refine ⟨D, cs, rfl, upd_same, by omega, by omega, fun H2 r pt ps x l s2 hr2 hT2 hs2 hwr hl => ?_⟩
    have s2 := sD.trans s2
    refine ⟨r, _, rfl, SqT.of hr2, rfl, _, _, rfl, _, _, rfl, rfl, ?_⟩
    have hsmall := pcR_small hwr (show l.length ≤ 3 by omega)
    have hpc := pcR_ok hwr (show l.length ≤ 3 by omega)
    have hlx : (rowTx (mk1 txOf x l) (mk2 txOf x l)).length ≤ 80 := hsmall.1
    refine ⟨_, rfl, _, rfl, pt, ps, [], x, l, txOf, by rw [show tx [] = ("" : Str) from lit_e.symm]; rfl, hT2, hs2, by omega, fun y => ⟨rfl, rfl⟩, by omega, hwr.len2, fun H3 s3 => ?_⟩
    refine ⟨_, rfl, _, rfl, pt, ps, .non, x, l, none, txOf, rfl, hT2.same s3, s3 _ _ hs2, hwr, by omega, rfl, fun y => ⟨rfl, rfl⟩, fun H4 tv s4 ho => ?_⟩
    have s4 := s2.trans (s3.trans s4)
    have ho : OpAt H4 (pcR x l).rs tv := ho
    have ex : rowTx (mk1 txOf x l) (mk2 txOf x l) = (pcR x l).x := rfl
    rw [ex]
    generalize hpe : pcR x l = p at ho hpc hsmall ⊢
    refine ⟨_, rfl, sa, ns, 1, rfl, (sm1.trans s4).seq hS, by decide, fun c2 => ⟨_, _, rfl, rfl, ⟨by decide, by decide⟩, z3, fun p2 hp2 => ?_⟩⟩
    have s5 := same_new hp2 (.lst [V.int 1, V.int 4, V.int 16])
    have hp22 : (upd H4 p2 (.lst [V.int 1, V.int 4, V.int 16])) p2 = some (.lst [V.int 1, V.int 4, V.int 16]) := upd_same
    have s5' := s4.trans s5
    have ho5 := ho.same s5
    generalize upd H4 p2 (.lst [V.int 1, V.int 4, V.int 16]) = H5 at s5 hp22 s5' ho5 ⊢
    refine ⟨_, rfl, .inl ⟨p2, _, _, _, rfl, rfl, SqL.of hp22, hdat, _, _, rfl, rfl, hd1, _, _, rfl, rfl, (by decide : (0 : Int) < 4), ?_⟩⟩
    obtain ⟨wr, hwr', hwr4⟩ := mod_nat (c2 / 64 / d) (n := 4) (by decide)
    have hwr' : c2 / 64 / d % 4 = (wr : Int) := hwr'
    dsimp only
    rw [hwr']
    refine ⟨fun σ' H'' => ∃ (x10 : Option V) (p : Pc) (tv : V), σ' = [some (.ref sa), some (.int (way : Nat)), some (.ref px), some (.ref pr), some (.int (0 + (i : Int))), some (.int ((1 + m : Nat) : Int)), some (.ref pt), some (.ref ps), some (.str (tx p.x)), some tv, x10, none] ∧ Same H5 H'' ∧ p.Ok 6 ∧ OpAt H'' p.rs tv, ?_, ?_⟩
    · suffices both : _ ∧ _ from ⟨_, rfl, _, _, rfl, rfl, _, rfl, ite2 (fun _ => ifT rfl both.1) (fun _ => ⟨_, rfl, .inl ⟨rfl, _, rfl, ite2 (fun _ => both.1) (fun _ => ifF (by decide) both.2)⟩⟩)⟩
      have no : ∃ (x10 : Option V) (p' : Pc) (tv' : V), [some (V.ref sa), some (.int (way : Nat)), some (.ref px), some (.ref pr), some (.int (0 + (i : Int))), some (.int ((1 + m : Nat) : Int)), some (.ref pt), some (.ref ps), some (.str (tx p.x)), some tv, some (.int (wr : Int)), none] = [some (.ref sa), some (.int (way : Nat)), some (.ref px), some (.ref pr), some (.int (0 + (i : Int))), some (.int ((1 + m : Nat) : Int)), some (.ref pt), some (.ref ps), some (.str (tx p'.x)), some tv', x10, none] ∧ Same H5 H5 ∧ p'.Ok 6 ∧ OpAt H5 p'.rs tv' := ⟨_, p, tv, rfl, Same.refl _, hpc.mono (by decide), ho5⟩
      refine ⟨⟨_, rfl, _, _, rfl, rfl, _, rfl, ite2 (fun c3 => ?_) (fun c3 => no)⟩, no⟩
      have hw1 : 0 < wr := by have := of_decide_eq_true c3; omega
      obtain ⟨ex, er⟩ := pcW_x wr p
      have hWok := pcW_ok (k := wr) hpc hsmall.1 hsmall.2
      generalize pcW wr p = pw at ex er hWok
      have iX : Is (tx p.x) p.x := rfl
      have iP : Is (tx (preOf wr)) (preOf wr) := rfl
      have hpl := preOf_len wr
      have hxl := hsmall.1
      refine ⟨z4, fun p3 hp3 => ⟨_, rfl, .inl ⟨p3, _, _, _, rfl, rfl, SqL.of upd_same, pre_at wr hwr4 hw1, _, rfl, .inr (.inl ⟨_, _, rfl, rfl, cat_ok iP iX (by omega), ?_⟩)⟩⟩⟩
      have s6 := same_new hp3 (.lst [V.str "", V.str "if p then q else ", V.str "let z = r in ", V.str "fn z => "])
      have ho6 := ho5.same s6
      have et : tx (preOf wr) ++ tx p.x = tx pw.x := by rw [ex]; exact iP.app iX
      rw [et]
      refine ⟨_, ?_, fun _ _ h => h⟩
      refine ⟨_, rfl, rfl, _, rfl, ?_⟩
      cases hrs : p.rs with
      | none =>
        rw [hrs] at ho6 er
        have htv : tv = .non := ho6
        refine ifF (by rw [htv]; decide) ⟨_, pw, tv, rfl, s6, hWok, ?_⟩
        rw [er]; exact ho6
      | some t =>
        rw [hrs] at ho6 er
        have htv : TmAt _ t tv := ho6
        refine ifT (by rw [decide_eq_false htv.not_non]; rfl) ?_
        refine ⟨_, rfl, _, rfl, wr, tv, t, rfl, htv, fun H7 r7 s7 ht7 => ⟨_, pw, .ref r7, rfl, s6.trans s7, hWok, ?_⟩⟩
        rw [er]; exact ht7
    rintro σ' H6 ⟨x10', p', tv', rfl, s6, hpok, ho6⟩
    have s6 := s5'.trans s6
    have hx6 := s6 _ _ hx1
    have hv6 := s6 _ _ hv1
    have hA6 := hA1.imp fun _ _ h => OpAt.same h s6
    have sm6 := sm1.trans s6
    have hvl : vs.length = i := by rw [← hA.len, hlen]
    refine ⟨_, rfl, .inl ⟨rfl, _, SqL.of hx6⟩, _, rfl, px, _, _, rfl, rfl, hx6, by rw [List.length_map]; omega, ?_⟩
    have t7 := tups_lst (ys := (pcs.map fun p => V.str (tx p.x)) ++ [.str (tx p'.x)]) hx6
    have sm7 := same_upd (o := .lst ((pcs.map fun p => V.str (tx p.x)) ++ [.str (tx p'.x)])) sm6 hpx
    have hv7 : (upd H6 px (.lst ((pcs.map fun p => V.str (tx p.x)) ++ [.str (tx p'.x)]))) pr = some (.lst vs) := by rw [upd_ne n1.symm]; exact hv6
    have hx7 : (upd H6 px (.lst ((pcs.map fun p => V.str (tx p.x)) ++ [.str (tx p'.x)]))) px = some (.lst ((pcs.map fun p => V.str (tx p.x)) ++ [.str (tx p'.x)])) := upd_same
    generalize upd H6 px (.lst ((pcs.map fun p => V.str (tx p.x)) ++ [.str (tx p'.x)])) = H7 at t7 sm7 hv7 hx7 ⊢
    refine ⟨_, rfl, .inl ⟨rfl, _, SqL.of hv7⟩, _, rfl, pr, _, _, rfl, rfl, hv7, by omega, ?_⟩
    have t8 := t7.trans (tups_lst (ys := vs ++ [tv']) hv7)
    refine ⟨_, _, _, _, _, _, _, pcs ++ [p'], vs ++ [tv'], rfl, same_upd sm7 hHr, ?_, upd_same, ?_, by simp [hlen], ?_⟩
    · rw [upd_ne n1, List.map_append]; exact hx7
    · exact (hA6.imp fun _ _ h => OpAt.tups h t8).app (.cons (ho6.tups t8) .nil)
    · intro p hp
      rcases List.mem_append.mp hp with hp | hp
      · exact hok p hp
      · have : p = p' := by simpa using hp
        rw [this]; exact hpok
  · rintro σ H' ⟨x4, x5, x6, x7, x8, x9, x10, pcs, vs, rfl, sm, hx, hv, hA, hlen, hok⟩
    obtain ⟨p0, p1, p2, rfl⟩ : ∃ p0 p1 p2, pcs = [p0, p1, p2] := by
      rcases pcs with _ | ⟨p0, _ | ⟨p1, _ | ⟨p2, _ | ⟨p3, r⟩⟩⟩⟩ <;> simp at hlen
      exact ⟨p0, p1, p2, rfl⟩
    obtain ⟨v0, v1, v2, rfl, o0, o1, o2⟩ : ∃ v0 v1 v2, vs = [v0, v1, v2] ∧ OpAt H' p0.rs v0 ∧ OpAt H' p1.rs v1 ∧ OpAt H' p2.rs v2 := by
      cases hA with
      | cons h0 t => cases t with
        | cons h1 t => cases t with
          | cons h2 t => cases t; exact ⟨_, _, _, rfl, h0, h1, h2⟩
    have k0 := hok p0 (by simp)
    have k1 := hok p1 (by simp)
    have k2 := hok p2 (by simp)
    refine ⟨_, rfl, _, rfl, _, rfl, way, px, pr, p0, p1, p2, v0, v1, v2, rfl, hx, hv, o0, o1, o2, Nat.le_trans k0.len (by decide), Nat.le_trans k1.len (by decide), Nat.le_trans k2.len (by decide), fun H2 r v s2 hr2 hT => ?_⟩
    refine ⟨r, _, rfl, SqT.of hr2, rfl, _, _, rfl, _, _, rfl, rfl, ?_⟩
    refine ⟨_, rfl, z6, fun p3 hp3 => ?_⟩
    have s3 := same_new hp3 (.lst [V.int 0, V.int 3, V.int 2, V.int 1, V.int 2, V.int 1])
    refine ⟨_, rfl, .inl ⟨p3, _, _, _, rfl, rfl, SqL.of upd_same, used_at way hw6 hw0, _, rfl, .inl ⟨pr, _, rfl, SqL.of (s3 _ _ (s2 _ _ hv)), fun pu hpu => ?_⟩⟩⟩
    rw [cut_take]
    have s4 := s3.trans (same_new hpu (.lst ([v0, v1, v2].take (usedN way))))
    have hu4 : (upd (upd H2 p3 (.lst [V.int 0, V.int 3, V.int 2, V.int 1, V.int 2, V.int 1])) pu (.lst ([v0, v1, v2].take (usedN way)))) pu = some (.lst ([v0, v1, v2].take (usedN way))) := upd_same
    generalize upd (upd H2 p3 (.lst [V.int 0, V.int 3, V.int 2, V.int 1, V.int 2, V.int 1])) pu (.lst ([v0, v1, v2].take (usedN way))) = H4 at s4 hu4 ⊢
    generalize hU : [v0, v1, v2].take (usedN way) = U at hu4 ⊢
    have hUl : U.length ≤ 3 := by rw [← hU, List.length_take]; simp only [List.length_cons, List.length_nil]; omega
    refine ⟨_, rfl, pu, rfl, ⟨_, SqL.of hu4⟩, comp_list (xs := U) (fun i ys H'' => H4 = H'' ∧ ys = (U.take i).filter fun v => decide (v = .non)) ⟨rfl, rfl⟩ ?_ ?_ ?_⟩
    · rintro i ys H'' hi ⟨rfl, rfl⟩
      refine ⟨SqL.of hu4, ?_⟩
      have := List.length_filter_le (fun v => decide (v = V.non)) (U.take i)
      rw [List.length_take] at this
      omega
    · rintro i u ys H'' hu' ⟨rfl, rfl⟩
      refine ⟨_, rfl, rfl, _, rfl, ?_⟩
      rw [take_one hu', List.filter_append]
      by_cases h : u = .non
      · refine ifT (decide_eq_true h) ⟨_, rfl, rfl, ?_⟩
        simp [h]
      · refine ifF (by simp [h]) ⟨rfl, ?_⟩
        simp [h]
    rintro ys H'' ⟨rfl, rfl⟩ D hD
    have s5 := same_new hD (.lst ((U.take U.length).filter fun v => decide (v = .non)))
    have hD5 : (upd H4 D (.lst ((U.take U.length).filter fun v => decide (v = .non)))) D = some (.lst ((U.take U.length).filter fun v => decide (v = .non))) := upd_same
    generalize upd H4 D (.lst ((U.take U.length).filter fun v => decide (v = .non))) = H5 at s5 hD5 ⊢
    rw [List.take_length] at hD5
    refine ⟨_, _, rfl, .inl ⟨_, SqL.of hD5, rfl⟩, _, _, rfl, rfl, _, rfl, ?_⟩
    have sm5 := sm.trans (s2.trans (s4.trans s5))
    have hU2 : (∃ v ∈ U, v = .non) ↔ lgR way p0 p1 p2 = none := by
      rw [lgR_none hw0, ← hU]
      have j0 := o0.non_iff
      have j1 := o1.non_iff
      have j2 := o2.non_iff
      have hn : usedN way = 1 ∨ usedN way = 2 ∨ usedN way = 3 := by
        unfold usedN
        repeat' split
        all_goals decide
      have i0 : (V.non = v0) ↔ (none = p0.rs) := ⟨fun h => (j0.mp h.symm).symm, fun h => (j0.mpr h.symm).symm⟩
      have i1 : (V.non = v1) ↔ (none = p1.rs) := ⟨fun h => (j1.mp h.symm).symm, fun h => (j1.mpr h.symm).symm⟩
      have i2 : (V.non = v2) ↔ (none = p2.rs) := ⟨fun h => (j2.mp h.symm).symm, fun h => (j2.mpr h.symm).symm⟩
      rcases hn with h | h | h <;> rw [h] <;> simp [j0, i0, i1, i2]
    cases hg : lgR way p0 p1 p2 with
    | none =>
      obtain ⟨v', hv', rfl⟩ := hU2.mpr hg
      have hpos : 0 < (U.filter fun v => decide (v = .non)).length := List.length_pos_of_mem (List.mem_filter.mpr ⟨hv', by decide⟩)
      refine ifT (decide_eq_true (by omega)) ⟨_, rfl, z2, fun r6 hr6 => ?_⟩
      exact qq _ r6 p0 p1 p2 .non (sm5.trans (same_new hr6 _)) k0 k1 k2 upd_same (by rw [hg]; rfl)
    | some t =>
      have hz : (U.filter fun v => decide (v = .non)) = [] := by
        rw [List.filter_eq_nil_iff]
        intro v' hv' h
        have := hU2.mp ⟨v', hv', of_decide_eq_true h⟩
        rw [hg] at this; cases this
      rw [hz]
      refine ifF (show ¬ decide ((0 : Int) < ((0 : Nat) : Int)) = true by decide) ⟨_, rfl, _, rfl, z2, fun r6 hr6 => ?_⟩
      have s6 := same_new hr6 (.tup [.str (tx (lgX way p0 p1 p2)), v])
      exact qq _ r6 p0 p1 p2 v (sm5.trans s6) k0 k1 k2 upd_same (by rw [hg]; exact (hT t hg).mono (BU.tups_of (s4.trans (s5.trans s6))))
end
end RD
namespace RD
open PySem L2
theorem _root_.L2.Room.u64 {k : Nat} {A : Around} (r : Room k A) : A.units + 64 < cLine := by have := r.un; omega
theorem deep_tup {H : Hp} {n : Nat} {a b : Addr} {xs ys : List V} (ha : H a = some (.tup xs)) (hb : H b = some (.tup ys)) (h : BU.All2 (Deep H n) xs ys) : Deep H (n + 1) (.ref a) (.ref b) :=
  .tup ha hb h.len fun i x y hx hy => by
    obtain ⟨y', hy', hd⟩ := h.get' hx
    rw [hy] at hy'; cases hy'
    exact hd
theorem ds {H : Hp} {n : Nat} (z : Str) : Deep H n (.str z) (.str z) := .same rfl
mutual
theorem tm_deep {H : Hp} {t : Tm} {v u : V} (h : TmAt H t v) (h' : TmAt H t u) {n : Nat} (hn : 2 * t.depth ≤ n) : Deep H n v u := by
  cases n with
  | zero => exfalso; cases t <;> simp only [Tm.depth] at hn <;> omega
  | succ n =>
  cases h with
  | num h => cases h' with | num h' => exact deep_tup h h' (.cons (ds _) (.cons (.same rfl) .nil))
  | truth h => cases h' with | truth h' => exact deep_tup h h' (.cons (ds _) (.cons (.same rfl) .nil))
  | non h => cases h' with | non h' => exact deep_tup h h' (.cons (ds _) .nil)
  | name h => cases h' with | name h' => exact deep_tup h h' (.cons (ds _) (.cons (ds _) .nil))
  | two h h1 h2 => cases h' with | two h' h1' h2' =>
    simp only [Tm.depth] at hn
    exact deep_tup h h' (.cons (ds _) (.cons (ds _) (.cons (tm_deep h1 h1' (by omega)) (.cons (tm_deep h2 h2' (by omega)) .nil))))
  | one h h1 => cases h' with | one h' h1' =>
    simp only [Tm.depth] at hn
    exact deep_tup h h' (.cons (ds _) (.cons (ds _) (.cons (tm_deep h1 h1' (by omega)) .nil)))
  | if_ h h1 h2 h3 => cases h' with | if_ h' h1' h2' h3' =>
    simp only [Tm.depth] at hn
    exact deep_tup h h' (.cons (ds _) (.cons (tm_deep h1 h1' (by omega)) (.cons (tm_deep h2 h2' (by omega)) (.cons (tm_deep h3 h3' (by omega)) .nil))))
  | let_ h h1 h2 => cases h' with | let_ h' h1' h2' =>
    simp only [Tm.depth] at hn
    exact deep_tup h h' (.cons (ds _) (.cons (ds _) (.cons (tm_deep h1 h1' (by omega)) (.cons (tm_deep h2 h2' (by omega)) .nil))))
  | fn h h1 => cases h' with | fn h' h1' =>
    simp only [Tm.depth] at hn
    exact deep_tup h h' (.cons (ds _) (.cons (ds _) (.cons (tm_deep h1 h1' (by omega)) .nil)))
  | do_ h h1 h2 => cases h' with | do_ h' h1' h2' =>
    simp only [Tm.depth] at hn
    exact deep_tup h h' (.cons (ds _) (.cons (tm_deep h1 h1' (by omega)) (.cons (tm_deep h2 h2' (by omega)) .nil)))
  | call h hc h1 => cases h' with | call h' hc' h1' =>
    simp only [Tm.depth] at hn
    cases n with
    | zero => omega
    | succ n => exact deep_tup h h' (.cons (ds _) (.cons (ds _) (.cons (deep_tup hc hc' (tms_deep h1 h1' (by omega))) .nil)))
theorem tms_deep {H : Hp} {ts : List Tm} {vs us : List V} (h : TmsAt H ts vs) (h' : TmsAt H ts us) {n : Nat} (hn : 2 * depths ts ≤ n) : BU.All2 (Deep H n) vs us := by
  cases h with
  | nil => cases h' with | nil => exact .nil
  | cons h1 h2 => cases h' with | cons h1' h2' =>
    simp only [depths] at hn
    exact .cons (tm_deep h1 h1' (by omega)) (tms_deep h2 h2' (by omega))
end
theorem law_read {L : Lt → Tx} {nd o len D S : Nat} (h : LOk L 22 nd o len D S) (hnd : nd ≤ 7) (ho : o ≤ 2) (hlen : len ≤ 400) (hD : D ≤ 8) (hS : S ≤ 100) (hS1 : 1 ≤ S) {x : Lt} {l : Lr} (hw : Lrok x l) (hl : l.length ≤ 6) :
    Easy (pre0 ++ rowTx (mk1 L x l) (mk2 L x l)) ∧ readPure (pre0 ++ rowTx (mk1 L x l) (mk2 L x l)) = (rowTr (mk1 L x l) (mk2 L x l)).map (fun t => [⟨wMain, [], t⟩]) ∧ (∀ t, rowTr (mk1 L x l) (mk2 L x l) = some t → t.depth ≤ 16) ∧ (rowTx (mk1 L x l) (mk2 L x l)).length ≤ 1000 := by
  obtain ⟨a1, a2, a3, a4, a5, a6, a7⟩ := read12 h hnd ho hlen hD hS hS1 hw hl
  refine ⟨⟨by omega, fun c hc => by have := a3 c hc; omega, fun ws hws y hy hn => ?_, fun ws fs hws hp d hd => ?_⟩, ?_, fun t ht => (a7 t ht).1, ?_⟩
  · rw [a1] at hws; cases hws
    rw [a4 y hy] at hn; cases hn
  · rw [a1] at hws; cases hws
    have hp : rProgram K10.isName (preK ++ rowTk (mk1 L x l) (mk2 L x l)) (bo (preK ++ rowTk (mk1 L x l) (mk2 L x l)) 32).1 = some fs := hp
    rw [a6] at hp
    obtain ⟨t, ht, rfl⟩ := Option.map_eq_some_iff.mp hp
    have : d = ⟨wMain, [], t⟩ := by simpa using hd
    rw [this]
    have := (a7 t ht).2
    show t.size ≤ 1000
    omega
  · unfold readPure
    rw [if_pos (by omega), a1]
    show readWords K10.isNum K10.isName _ = _
    unfold readWords
    rw [if_pos a5]
    show (rProgram K10.isName (preK ++ rowTk (mk1 L x l) (mk2 L x l)) (bo (preK ++ rowTk (mk1 L x l) (mk2 L x l)) 32).1).bind _ = _
    rw [a6]
    cases ht : rowTr (mk1 L x l) (mk2 L x l) with
    | none => rfl
    | some t =>
      obtain ⟨d1, d2⟩ := a7 t ht
      show (if great [⟨wMain, [], t⟩] = true then none else some _) = _
      have hg : great [⟨wMain, [], t⟩] = false := by
        have h1 : ¬ 16 < t.depth := by omega
        have h2 : ¬ 400 < t.size := by omega
        unfold great
        rw [List.any_cons, List.any_nil, List.map_cons, List.map_nil, List.sum_cons, List.sum_nil]
        show (((decide (16 < t.depth) || false) || decide (400 < t.size + 0)) : Bool) = false
        rw [decide_eq_false h1, Nat.add_zero, decide_eq_false h2]; rfl
      rw [hg]; rfl
  · have := a2
    rw [List.length_append] at this
    omega
end RD
set_option maxHeartbeats 4000000
namespace RD
open PySem L2
seal PE PT PW PA PS PSs PTs PI PG PGs PO PEX PSX
abbrev s_law : Stmt := top 51
theorem sc_law : FnScope ["_law_script", "_law_many", "_law_things", "_law_signs", "_law_way", "_law_text_here", "_law_last_here", "_law_due", "_law_found"] ["_law_script"] (defScope s_law) := ⟨rfl, rfl, rfl, by decide +kernel, rfl, by decide +kernel, by decide +kernel⟩
theorem lgX_ne (way : Nat) (p0 p1 p2 : Pc) : lgX way p0 p1 p2 ≠ [] := by
  unfold lgX
  repeat' split
  all_goals simp
theorem lit_m : ("main" : Str) = tx wMain := by decide +kernel
theorem lit_d : Is ("def main() = " : Str) pre0 := by show ("def main() = " : Str) = _; decide +kernel
section
variable {P : Program} {w : World} {K : PySem.W.Frag} {mg : Str → Option Value} {base : Heap} {cT f f_law_cell_at f_law_row f_law_text f_law_tree f_law_last f_read : Addr} {fd d_law_cell_at d_law_row d_law_text d_law_tree d_law_last d_read : FuncData}
def spLaw (K : PySem.W.Frag) : Sp := fun vs H Q _ => ∃ (a : Addr) (ns : List Int), vs = [.ref a] ∧ SqL K H a (ns.map V.int) ∧ ns.length ≤ 63 ∧ ∀ H', Q (.bl true) H'
theorem ok_law (F : Fun K "law" "law" s_law f fd) (B : NoG mg) (X_BadText : XCls K mg "BadText" cT) (TK : Takes K cT fun c => c = cT)
    (G_law_cell_at : FnOk P w K mg base CX0 1 f_law_cell_at d_law_cell_at ["_law_script", "_law_k"] (spCell K)) (b_law_cell_at : Binds K d_law_cell_at ["_law_script", "_law_k"] []) (k_law_cell_at : PySem.W.keepIn K (.ref f_law_cell_at) = true) (m_law_cell_at : mg "_law_cell_at" = some (.ref f_law_cell_at))
    (G_law_row : FnOk P w K mg base CX0 1 f_law_row d_law_row ["_law_cells"] spRow12) (b_law_row : Binds K d_law_row ["_law_cells"] []) (k_law_row : PySem.W.keepIn K (.ref f_law_row) = true) (m_law_row : mg "_law_row" = some (.ref f_law_row))
    (G_law_text : FnOk P w K mg base CX0 1 f_law_text d_law_text ["_law_things", "_law_signs", "_law_last_here"] spText) (b_law_text : Binds K d_law_text ["_law_things", "_law_signs", "_law_last_here"] []) (k_law_text : PySem.W.keepIn K (.ref f_law_text) = true) (m_law_text : mg "_law_text" = some (.ref f_law_text))
    (G_law_tree : FnOk P w K mg base CX0 2 f_law_tree d_law_tree ["_law_things", "_law_signs", "_law_last_here"] spTree) (b_law_tree : Binds K d_law_tree ["_law_things", "_law_signs", "_law_last_here"] []) (k_law_tree : PySem.W.keepIn K (.ref f_law_tree) = true) (m_law_tree : mg "_law_tree" = some (.ref f_law_tree))
    (G_law_last : FnOk P w K mg base CX0 4 f_law_last d_law_last ["_law_script", "_law_way"] (spLast K)) (b_law_last : Binds K d_law_last ["_law_script", "_law_way"] []) (k_law_last : PySem.W.keepIn K (.ref f_law_last) = true) (m_law_last : mg "_law_last" = some (.ref f_law_last))
    (G_read : FnOk P w K mg base (CXr P w) 234 f_read d_read ["text"] (spRead cT)) (b_read : Binds K d_read ["text"] []) (k_read : PySem.W.keepIn K (.ref f_read) = true) (m_read : mg "read" = some (.ref f_read)) :
    FnOk P w K mg base CX0 236 f fd ["_law_script"] (spLaw K) := by
  refine F.ok sc_law (fun vs H Q E h => ?_) (fun cdv A outer s H vs Q E hr h => ?_)
  · obtain ⟨a, ns, rfl, _⟩ := h
    rfl
  obtain ⟨sa, ns, rfl, hS, hn, q⟩ := h
  have nd := sc_law.nd
  have hu := hr.units0
  have hu64 := hr.u64
  have z0 : (0 : Nat) ≤ sizeLine := by decide
  have z1 : (1 : Nat) ≤ sizeLine := by decide
  have z4 : (4 : Nat) ≤ sizeLine := by decide
  refine ⟨_, (pss_cons (ps_set (i := 1) nd rfl (Or.inl rfl) (pe_op uAdd pe_int (pe_op op_mod (pe_call G_law_cell_at (hr.mono (by first | decide | omega)) rfl m_law_cell_at k_law_cell_at b_law_cell_at .nil pass0 (pa_cons (pv 0) (pa_cons pe_int pa_nil))) pe_int)))
      (pss_cons (ps_asg (pe_call G_law_row (hr.mono (by first | decide | omega)) rfl m_law_row k_law_row b_law_row .nil pass0 (pa_cons (pe_comp (CompScope.mk (N := ["_law_script", "_law_many", "_law_things", "_law_signs", "_law_way", "_law_text_here", "_law_last_here", "_law_due", "_law_found"]) (sc := defScope s_law) (caps := [0]) (ns := ["_law_script"]) (by decide +kernel) rfl (by decide +kernel) rfl (by decide +kernel) rfl (by decide +kernel) (by decide +kernel)) rfl rfl rfl (pi_range1 rfl B.range_ (pa_cons (pv 1) pa_nil)) (fun _ _ _ _ _ => pts_nil) (fun _ _ _ _ _ => (pe_call G_law_cell_at (hr.mono (by first | decide | omega)) rfl m_law_cell_at k_law_cell_at b_law_cell_at .nil pass0 (pa_cons (pv 1) (pa_cons (pe_op uAdd pe_int (pv 0)) pa_nil))))) pa_nil)) (pg_tup rfl (pgs_cons (pg_name (i := 2) nd rfl (Or.inl rfl)) (pgs_cons (pg_name (i := 3) nd rfl (Or.inl rfl)) pgs_nil))))
      (pss_cons (ps_set (i := 4) nd rfl (Or.inl rfl) (pe_op op_mod (pe_call G_law_cell_at (hr.mono (by first | decide | omega)) rfl m_law_cell_at k_law_cell_at b_law_cell_at .nil pass0 (pa_cons (pv 0) (pa_cons pe_int pa_nil))) pe_int))
      (pss_cons (ps_set (i := 5) nd rfl (Or.inl rfl) pe_str)
      (pss_cons (ps_set (i := 6) nd rfl (Or.inl rfl) pe_non)
      (pss_cons (ps_cut (ps_if (pt_cmpR op_gt (pv 4) pe_int rfl) (pss_one (ps_asg (pe_call G_law_last (hr.mono (by first | decide | omega)) rfl m_law_last k_law_last b_law_last .nil pass0 (pa_cons (pv 0) (pa_cons (pv 4) pa_nil))) (pg_tup rfl (pgs_cons (pg_name (i := 5) nd rfl (Or.inl rfl)) (pgs_cons (pg_name (i := 6) nd rfl (Or.inl rfl)) pgs_nil))))) pss_nil))
      (pss_cons (ps_set (i := 7) nd rfl (Or.inl rfl) (pe_call G_law_tree (hr.mono (by first | decide | omega)) rfl m_law_tree k_law_tree b_law_tree .nil pass0 (pa_cons (pv 2) (pa_cons (pv 3) (pa_cons (pv 6) pa_nil)))))
      (pss_cons (ps_cut (ps_if (PW.pt (pw_and (pt_cmpR op_gt (pv 4) pe_int rfl) (pw_and1 (pt_cmpR op_isN (pv 6) pe_non rfl)))) (pss_one (ps_set (i := 7) nd rfl (Or.inl rfl) pe_non)) pss_nil))
      (pss_cons (ps_set (i := 8) nd rfl (Or.inl rfl) pe_non)
      (pss_cons (ps_try rfl rfl rfl X_BadText.m TK (psx_set (i := 8) nd rfl (Or.inl rfl) (pex_call G_read (hr.mono (by decide)) rfl m_read k_read b_read .nil (fun _ => (pa_cons (pe_op uAdd pe_str (pe_call G_law_text (hr.mono (by first | decide | omega)) rfl m_law_text k_law_text b_law_text .nil pass0 (pa_cons (pv 2) (pa_cons (pv 3) (pa_cons (pv 5) pa_nil))))) pa_nil)))) (fun _ => (pss_one (ps_ret (pe_cmpR op_isN (pv 7) pe_non rfl)))))
      (pss_one (ps_ret (pe_and (pe_cmpR op_notN (pv 7) pe_non rfl) (pe_one (pe_cmpR (kEqD hu64) (pv 8) (pe_tup (pa_cons (pe_tup (pa_cons pe_str (pa_cons pe_str (pa_cons (pe_tup pa_nil) (pa_cons (pv 7) pa_nil))))) pa_nil)) rfl))))))))))))))), ?_⟩
  refine ⟨_, rfl, sa, ns, 0, rfl, hS, by decide, fun c => ⟨_, _, rfl, rfl, (by decide : (0 : Int) < 7), .inl ⟨_, _, rfl, rfl, ?_⟩⟩⟩
  obtain ⟨m, hm, hm7⟩ := mod_nat c (n := 7) (by decide)
  have hm : c % 7 = (m : Int) := hm
  dsimp only
  rw [hm, show (1 : Int) + (m : Int) = ((1 + m : Nat) : Int) by omega]
  refine ⟨_, rfl, _, rfl, by omega, by omega, ?_⟩
  rw [show (((1 + m : Nat) : Int)).toNat = 1 + m from rfl]
  refine comp_range (n := 1 + m) (lo := 0) (fun j ys H'' => H = H'' ∧ ∃ cs : List Int, ys = cs.map V.int ∧ cs.length = j) ⟨rfl, [], rfl, rfl⟩ ?_ ?_ ?_
  · rintro j ys H'' hj ⟨rfl, cs, rfl, hcs⟩
    have : (1000 : Nat) < sizeLine := by decide
    rw [List.length_map]; omega
  · rintro j ys H'' hj ⟨rfl, cs, rfl, hcs⟩
    exact ⟨_, rfl, _, rfl, .inl ⟨_, _, rfl, rfl, sa, ns, _, rfl, hS, by omega, fun c2 => ⟨rfl, cs ++ [c2], by simp, by simp [hcs]⟩⟩⟩
  rintro ys H'' ⟨rfl, cs, rfl, hcs⟩ D hD
  have sD := same_new hD (.lst (cs.map V.int))
  refine ⟨D, cs, rfl, upd_same, by omega, by omega, fun H1 r pt ps x l s1 hr1 hT1 hs1 hw hl => ?_⟩
  have s1 := sD.trans s1
  refine ⟨r, _, rfl, SqT.of hr1, rfl, _, _, rfl, _, _, rfl, rfl, ?_⟩
  refine ⟨_, rfl, sa, ns, 2, rfl, s1.seq hS, by decide, fun c2 => ⟨_, _, rfl, rfl, (by decide : (0 : Int) < 6), ?_⟩⟩
  obtain ⟨way, hway, hw6⟩ := mod_nat c2 (n := 6) (by decide)
  have hway : c2 % 6 = (way : Int) := hway
  dsimp only
  rw [hway]
  refine ⟨fun σ' H' => Same H1 H' ∧ ∃ (zl : List Nat) (lv : V) (L : Lt → Tx) (nd o len D S : Nat), σ' = [some (.ref sa), some (.int ((1 + m : Nat) : Int)), some (.ref pt), some (.ref ps), some (.int (way : Int)), some (.str (tx zl)), some lv, none, none] ∧ LOk L 22 nd o len D S ∧ (nd ≤ 7 ∧ o ≤ 2 ∧ len ≤ 400 ∧ D ≤ 8 ∧ S ≤ 100 ∧ 1 ≤ S) ∧ (∀ y, (L y).t.ah = y.ah ∧ (L y).x = if zl = [] then y.nm else zl) ∧ ∃ (last : Option Tm) (L' : Lt → Tx), OpAt H' last lv ∧ (∀ y, (L' y).t.ah = y.ah ∧ (L' y).t.rs = some (lastT last y)) ∧ ((L' = L ∧ (way = 0 ∨ lv ≠ .non)) ∨ (0 < way ∧ lv = .non ∧ ∀ y, (L y).t.rs = none)), ?_, ?_⟩
  · refine ⟨_, rfl, _, _, rfl, rfl, _, rfl, ite2 (fun c3 => ?_) (fun c3 => ?_)⟩
    · have hw0 : 0 < way := by have := of_decide_eq_true c3; omega
      refine ⟨_, rfl, _, rfl, sa, ns, way, rfl, s1.seq hS, hw0, hw6, fun H2 r2 p0 p1 p2 v s2 k0 k1 k2 hr2 ho => ?_⟩
      refine ⟨r2, _, rfl, SqT.of hr2, rfl, _, _, rfl, _, _, rfl, rfl, s2, ?_⟩
      refine ⟨lgX way p0 p1 p2, v, lgL way p0 p1 p2, 7, 2, 400, 8, 100, rfl, lgL_ok k0 k1 k2, ⟨by decide, by decide, by decide, by decide, by decide, by decide⟩, fun y => ⟨rfl, by rw [if_neg (lgX_ne way p0 p1 p2)]; rfl⟩, ?_⟩
      cases hg : lgR way p0 p1 p2 with
      | none =>
        rw [hg] at ho
        exact ⟨none, txOf, ho, fun y => ⟨rfl, rfl⟩, .inr ⟨hw0, ho, fun y => hg⟩⟩
      | some t =>
        rw [hg] at ho
        exact ⟨some t, lgL way p0 p1 p2, ho, fun y => ⟨rfl, hg⟩, .inl ⟨rfl, .inr (TmAt.not_non ho)⟩⟩
    · have hw0 : way = 0 := by
        rcases Nat.eq_zero_or_pos way with h | h
        · exact h
        · exact absurd (decide_eq_true (show (0 : Int) < (way : Int) by omega)) c3
      exact ⟨Same.refl _, [], .non, txOf, 0, 0, 1, 1, 1, by rw [show tx [] = ("" : Str) from lit_e.symm]; rfl, txOf_ok.up (by decide), ⟨by decide, by decide, by decide, by decide, by decide, by decide⟩, fun y => ⟨rfl, rfl⟩, none, txOf, rfl, fun y => ⟨rfl, rfl⟩, .inl ⟨rfl, .inl hw0⟩⟩
  rintro σ' H2 ⟨s2, zl, lv, L, nd', o', len, D', S, rfl, hLO, ⟨b1, b2, b3, b4, b5, b6⟩, hLx, last, L', hlast, hL', hrel⟩
  have hl6 : l.length ≤ 6 := by omega
  obtain ⟨hez, hrp, hdp, hTl⟩ := law_read hLO b1 b2 b3 b4 b5 b6 hw hl6
  have hR : (0 < way ∧ lv = .non → rowTr (mk1 L x l) (mk2 L x l) = none) ∧ (¬ (0 < way ∧ lv = .non) → rowTr (mk1 L x l) (mk2 L x l) = rowTr (mk1 L' x l) (mk2 L' x l)) := by
    rcases hrel with ⟨rfl, h⟩ | ⟨h1, h2, h3⟩
    · exact ⟨fun h' => by rcases h with h | h; omega; exact absurd h'.2 h, fun _ => rfl⟩
    · exact ⟨fun _ => rowTr_none h3, fun h => absurd ⟨h1, h2⟩ h⟩
  refine ⟨_, rfl, _, rfl, _, rfl, pt, ps, lv, x, l, last, L', rfl, hT1.same s2, s2 _ _ hs1, hw, by omega, hlast, hL', fun H3 dv s3 hdv => ?_⟩
  have s3 := s2.trans s3
  refine ⟨fun σ' H' => H3 = H' ∧ ∃ dv, σ' = [some (.ref sa), some (.int ((1 + m : Nat) : Int)), some (.ref pt), some (.ref ps), some (.int (way : Int)), some (.str (tx zl)), some lv, some dv, none] ∧ OpAt H3 (rowTr (mk1 L x l) (mk2 L x l)) dv, ?_, ?_⟩
  · refine ⟨_, rfl, _, _, rfl, rfl, _, rfl, ite2 (fun c3 => ?_) (fun c3 => ifF (by decide) ?_)⟩
    · have hw0 : 0 < way := by have := of_decide_eq_true c3; omega
      refine ⟨_, rfl, rfl, _, rfl, ite2 (fun c4 => ?_) (fun c4 => ?_)⟩
      · exact ⟨rfl, .non, rfl, by rw [hR.1 ⟨hw0, of_decide_eq_true c4⟩]; rfl⟩
      · exact ⟨rfl, dv, rfl, by rw [hR.2 (fun h => c4 (decide_eq_true h.2))]; exact hdv⟩
    · exact ⟨rfl, dv, rfl, by rw [hR.2 (fun h => c3 (decide_eq_true (show (0 : Int) < (way : Int) by omega)))]; exact hdv⟩
  rintro σ' H' ⟨rfl, dv', rfl, hdv'⟩
  clear hdv dv hR hrel hL' hlast L' last
  have e0 : (rowTx (mk1 L x l) (mk2 L x l)).length ≤ 1000 := hTl
  generalize rowTr (mk1 L x l) (mk2 L x l) = R at hrp hdp hdv'
  have iT : Is (tx (rowTx (mk1 L x l) (mk2 L x l))) (rowTx (mk1 L x l) (mk2 L x l)) := rfl
  refine ⟨_, rfl, _, rfl, _, rfl, pt, ps, zl, x, l, L, rfl, hT1.same s3, s3 _ _ hs1, by omega, hLx, hTl, hw.len2, fun H4 s4 => .inr (.inl ⟨_, _, rfl, rfl, cat_ok lit_d iT (by simp only [List.length_cons, List.length_nil]; omega), ?_⟩)⟩
  refine ⟨_, by rw [show ("def main() = " : Str) ++ tx (rowTx (mk1 L x l) (mk2 L x l)) = _ from lit_d.app iT]; rfl, hez, fun fs p us H5 hfs hp hA s5 => ?_, fun hno H5 => ?_⟩
  · rw [hrp] at hfs
    obtain ⟨t, rfl, rfl⟩ := Option.map_eq_some_iff.mp hfs
    have hdv5 : TmAt H5 t dv' := (hdv'.some_ rfl).mono (BU.tups_of (s4.trans s5))
    have hd16 := hdp t rfl
    obtain ⟨u, rfl, hFd⟩ : ∃ u, us = [u] ∧ FdAt H5 ⟨wMain, [], t⟩ u := by
      cases hA with
      | cons h t => cases t; exact ⟨_, rfl, h⟩
    obtain ⟨p1, v, cc, rfl, g1, g2, g3⟩ := hFd
    refine ⟨_, rfl, rfl, _, rfl, ifT (by rw [decide_eq_false hdv5.not_non]; rfl) ?_⟩
    refine ⟨_, rfl, z0, fun c' hc' => ⟨_, rfl, z4, fun q1 hq1 => ⟨z1, fun q2 hq2 => ?_⟩⟩⟩
    have t1 := same_new hc' (.tup [])
    have t2 := same_new hq1 (.tup [.str "def", .str "main", .ref c', dv'])
    have t3 := same_new hq2 (.tup [.ref q1])
    have e1 := (t2.trans t3) _ _ (upd_same (H := H5) (a := c') (o := .tup []))
    have e2 := t3 _ _ (upd_same (H := upd H5 c' (.tup [])) (a := q1) (o := .tup [.str "def", .str "main", .ref c', dv']))
    have e3 := upd_same (H := upd (upd H5 c' (.tup [])) q1 (.tup [.str "def", .str "main", .ref c', dv'])) (a := q2) (o := .tup [.ref q1])
    have tt := t1.trans (t2.trans t3)
    refine ⟨p, q2, _, _, rfl, rfl, tt _ _ hp, e3, ?_, q _⟩
    refine deep_tup (tt _ _ hp) e3 (.cons (deep_tup (tt _ _ g1) e2 ?_) .nil)
    refine .cons (ds _) (.cons (by rw [lit_m]; exact ds _) (.cons (deep_tup (tt _ _ g2) e1 .nil) (.cons (tm_deep (g3.mono (BU.tups_of tt)) (hdv5.mono (BU.tups_of tt)) (show 2 * t.depth ≤ 38 by omega)) .nil)))
  · rw [hrp] at hno
    have hRn : R = none := by
      cases R with
      | none => rfl
      | some t => cases hno
    rw [hRn] at hdv'
    have hdv' : dv' = .non := hdv'
    subst hdv'
    exact ⟨cT, rfl, rfl, fun a ha => ⟨_, rfl, rfl, q _⟩⟩
end
end RD
def PySem.W.Fast.tw3626304904881588494 : Unit := ()
def PySem.W.Fast.tw6362821984841042010 : Unit := ()
def PySem.W.Fast.tw4243772136254352627 : Unit := ()
def PySem.W.Fast.tw16165396150971342446 : Unit := ()
def PySem.W.Fast.tw11092479636400402538 : Unit := ()
def PySem.W.Fast.tw11728152829289189300 : Unit := ()
def PySem.W.Fast.tw3384339586247834300 : Unit := ()
def PySem.W.Fast.tw18332414159760836799 : Unit := ()
def PySem.W.Fast.tw7262491141632430820 : Unit := ()
def PySem.W.Fast.tw5836050783651772178 : Unit := ()
def PySem.W.Fast.tw6108829903357714708 : Unit := ()
def PySem.W.Fast.tw16206965518405288703 : Unit := ()
def PySem.W.Fast.tw5197643102493415896 : Unit := ()
namespace RD
open PySem L2
theorem told_eq : (K10.toldW.map fun l => V.str (tx l)) = [V.str "def", V.str "if", V.str "then", V.str "else", V.str "let", V.str "in", V.str "fn", V.str "yes", V.str "no", V.str "head", V.str "tail", V.str "empty", V.str "not"] := by decide +kernel
theorem bm_is {K : PySem.W.Frag} {c d : Addr} {oc : Value} {od : Option Addr} {cd : ClassData} {sl : Array (Option Value)} (h : K.lookup c = some ⟨oc, od, .cls cd, sl⟩) (hc : cd.mro.tail.contains (.ref d) = true) : (Value.ref c :: bmOf K c).contains (.ref d) = true := by
  have e : bmOf K c = cd.mro.tail := by unfold bmOf; rw [h]
  rw [e, List.contains_cons, hc, Bool.or_true]
def pick {α : Type} (l : List (Str × α)) (d : α) (x : Str) : α := (l.lookup x).getD d
theorem pick_ok {α : Type} (d : α) : ∀ (l : List (Str × α)) (i : Nat) (x : Str) (v : α), l[i]? = some (x, v) → (l.map (·.1)).Nodup → pick l d x = v
  | [], i, x, v, h, _ => by cases h
  | (y, u) :: r, 0, x, v, h, _ => by
    cases h
    unfold pick
    rw [List.lookup_cons_self]
    rfl
  | (y, u) :: r, i + 1, x, v, h, hn => by
    have h' : r[i]? = some (x, v) := h
    rw [List.map_cons, List.nodup_cons] at hn
    have hm : x ∈ r.map (·.1) := List.mem_map.mpr ⟨(x, v), List.mem_of_getElem? h', rfl⟩
    have hne : x ≠ y := fun e => hn.1 (e ▸ hm)
    have ih := pick_ok d r i x v h' hn.2
    unfold pick at ih ⊢
    rw [List.lookup_cons, show (x == y) = false from beq_false_of_ne hne]
    exact ih
theorem meths_nodup : (["ahead", "take", "expect", "read_program", "read_function", "read_name", "read_names", "read_terms", "goes_on", "read_term", "read_row", "refuse_side_by_side", "read_operand", "read_tight_or_wide", "read_if", "read_let", "read_fn", "read_tight", "read_named"] : List Str).Nodup := by decide +kernel
theorem mfmd (f0 f1 f2 f3 f4 f5 f6 f7 f8 f9 f10 f11 f12 f13 f14 f15 f16 f17 f18 : Addr) (d0 d1 d2 d3 d4 d5 d6 d7 d8 d9 d10 d11 d12 d13 d14 d15 d16 d17 d18 : FuncData) : ∃ (mf : Str → Addr) (md : Str → FuncData), mf "ahead" = f0 ∧ mf "take" = f1 ∧ mf "expect" = f2 ∧ mf "read_program" = f3 ∧ mf "read_function" = f4 ∧ mf "read_name" = f5 ∧ mf "read_names" = f6 ∧ mf "read_terms" = f7 ∧ mf "goes_on" = f8 ∧ mf "read_term" = f9 ∧ mf "read_row" = f10 ∧ mf "refuse_side_by_side" = f11 ∧ mf "read_operand" = f12 ∧ mf "read_tight_or_wide" = f13 ∧ mf "read_if" = f14 ∧ mf "read_let" = f15 ∧ mf "read_fn" = f16 ∧ mf "read_tight" = f17 ∧ mf "read_named" = f18 ∧ md "ahead" = d0 ∧ md "take" = d1 ∧ md "expect" = d2 ∧ md "read_program" = d3 ∧ md "read_function" = d4 ∧ md "read_name" = d5 ∧ md "read_names" = d6 ∧ md "read_terms" = d7 ∧ md "goes_on" = d8 ∧ md "read_term" = d9 ∧ md "read_row" = d10 ∧ md "refuse_side_by_side" = d11 ∧ md "read_operand" = d12 ∧ md "read_tight_or_wide" = d13 ∧ md "read_if" = d14 ∧ md "read_let" = d15 ∧ md "read_fn" = d16 ∧ md "read_tight" = d17 ∧ md "read_named" = d18 :=
  ⟨pick [("ahead", f0), ("take", f1), ("expect", f2), ("read_program", f3), ("read_function", f4), ("read_name", f5), ("read_names", f6), ("read_terms", f7), ("goes_on", f8), ("read_term", f9), ("read_row", f10), ("refuse_side_by_side", f11), ("read_operand", f12), ("read_tight_or_wide", f13), ("read_if", f14), ("read_let", f15), ("read_fn", f16), ("read_tight", f17), ("read_named", f18)] f0, pick [("ahead", d0), ("take", d1), ("expect", d2), ("read_program", d3), ("read_function", d4), ("read_name", d5), ("read_names", d6), ("read_terms", d7), ("goes_on", d8), ("read_term", d9), ("read_row", d10), ("refuse_side_by_side", d11), ("read_operand", d12), ("read_tight_or_wide", d13), ("read_if", d14), ("read_let", d15), ("read_fn", d16), ("read_tight", d17), ("read_named", d18)] d0, pick_ok _ _ 0 _ _ rfl meths_nodup, pick_ok _ _ 1 _ _ rfl meths_nodup, pick_ok _ _ 2 _ _ rfl meths_nodup, pick_ok _ _ 3 _ _ rfl meths_nodup, pick_ok _ _ 4 _ _ rfl meths_nodup, pick_ok _ _ 5 _ _ rfl meths_nodup, pick_ok _ _ 6 _ _ rfl meths_nodup, pick_ok _ _ 7 _ _ rfl meths_nodup, pick_ok _ _ 8 _ _ rfl meths_nodup, pick_ok _ _ 9 _ _ rfl meths_nodup, pick_ok _ _ 10 _ _ rfl meths_nodup, pick_ok _ _ 11 _ _ rfl meths_nodup, pick_ok _ _ 12 _ _ rfl meths_nodup, pick_ok _ _ 13 _ _ rfl meths_nodup, pick_ok _ _ 14 _ _ rfl meths_nodup, pick_ok _ _ 15 _ _ rfl meths_nodup, pick_ok _ _ 16 _ _ rfl meths_nodup, pick_ok _ _ 17 _ _ rfl meths_nodup, pick_ok _ _ 18 _ _ rfl meths_nodup, pick_ok _ _ 0 _ _ rfl meths_nodup, pick_ok _ _ 1 _ _ rfl meths_nodup, pick_ok _ _ 2 _ _ rfl meths_nodup, pick_ok _ _ 3 _ _ rfl meths_nodup, pick_ok _ _ 4 _ _ rfl meths_nodup, pick_ok _ _ 5 _ _ rfl meths_nodup, pick_ok _ _ 6 _ _ rfl meths_nodup, pick_ok _ _ 7 _ _ rfl meths_nodup, pick_ok _ _ 8 _ _ rfl meths_nodup, pick_ok _ _ 9 _ _ rfl meths_nodup, pick_ok _ _ 10 _ _ rfl meths_nodup, pick_ok _ _ 11 _ _ rfl meths_nodup, pick_ok _ _ 12 _ _ rfl meths_nodup, pick_ok _ _ 13 _ _ rfl meths_nodup, pick_ok _ _ 14 _ _ rfl meths_nodup, pick_ok _ _ 15 _ _ rfl meths_nodup, pick_ok _ _ 16 _ _ rfl meths_nodup, pick_ok _ _ 17 _ _ rfl meths_nodup, pick_ok _ _ 18 _ _ rfl meths_nodup⟩
set_option maxHeartbeats 0 in
theorem all_mk {l : PySem.W.OpenLaw} {w : World} {K : PySem.W.Frag} {h : Heap} {mg : Str → Option Value} {fa C : Addr} (X : K.In h) (G : h.Ns mainGlobals mg) (hfa : mg "law" = some (.ref fa))
    {f0 f1 f2 f3 f4 f5 f6 f7 f8 f9 f10 f11 f12 f13 f14 f15 f16 f17 f18 f19 f20 f21 f22 f23 f24 f25 fM0 fM1 fM2 fM3 fM4 fM5 fM6 fM7 fM8 fM9 fM10 fM11 fM12 fM13 fM14 fM15 fM16 fM17 fM18 fI : Addr} {od0 an0 od1 an1 od2 an2 od3 an3 od4 an4 od5 an5 od6 an6 od7 an7 od8 an8 od9 an9 od10 an10 od11 an11 od12 an12 od13 an13 od14 an14 od15 an15 od16 an16 od17 an17 od18 an18 od19 an19 od20 an20 od21 an21 od22 an22 od23 an23 od24 an24 od25 an25 odM0 anM0 odM1 anM1 odM2 anM2 odM3 anM3 odM4 anM4 odM5 anM5 odM6 anM6 odM7 anM7 odM8 anM8 odM9 anM9 odM10 anM10 odM11 anM11 odM12 anM12 odM13 anM13 odM14 anM14 odM15 anM15 odM16 anM16 odM17 anM17 odM18 anM18 odI anI : Option Addr} {sl0 sl1 sl2 sl3 sl4 sl5 sl6 sl7 sl8 sl9 sl10 sl11 sl12 sl13 sl14 sl15 sl16 sl17 sl18 sl19 sl20 sl21 sl22 sl23 sl24 sl25 slM0 slM1 slM2 slM3 slM4 slM5 slM6 slM7 slM8 slM9 slM10 slM11 slM12 slM13 slM14 slM15 slM16 slM17 slM18 slI : Array (Option Value)} {oc0 kV0 dc0 pm0 cd0 ct0 oc1 kV1 dc1 pm1 cd1 ct1 oc2 kV2 dc2 pm2 cd2 ct2 oc3 kV3 dc3 pm3 cd3 ct3 oc4 kV4 dc4 pm4 cd4 ct4 oc5 kV5 dc5 pm5 cd5 ct5 oc6 kV6 dc6 pm6 cd6 ct6 oc7 kV7 dc7 pm7 cd7 ct7 oc8 kV8 dc8 pm8 cd8 ct8 oc9 kV9 dc9 pm9 cd9 ct9 oc10 kV10 dc10 pm10 cd10 ct10 oc11 kV11 dc11 pm11 cd11 ct11 oc12 kV12 dc12 pm12 cd12 ct12 oc13 kV13 dc13 pm13 cd13 ct13 oc14 kV14 dc14 pm14 cd14 ct14 oc15 kV15 dc15 pm15 cd15 ct15 oc16 kV16 dc16 pm16 cd16 ct16 oc17 kV17 dc17 pm17 cd17 ct17 oc18 kV18 dc18 pm18 cd18 ct18 oc19 kV19 dc19 pm19 cd19 ct19 oc20 kV20 dc20 pm20 cd20 ct20 oc21 kV21 dc21 pm21 cd21 ct21 oc22 kV22 dc22 pm22 cd22 ct22 oc23 kV23 dc23 pm23 cd23 ct23 oc24 kV24 dc24 pm24 cd24 ct24 oc25 kV25 dc25 pm25 cd25 ct25 ocM0 kVM0 dcM0 pmM0 cdM0 ctM0 ocM1 kVM1 dcM1 pmM1 cdM1 ctM1 ocM2 kVM2 dcM2 pmM2 cdM2 ctM2 ocM3 kVM3 dcM3 pmM3 cdM3 ctM3 ocM4 kVM4 dcM4 pmM4 cdM4 ctM4 ocM5 kVM5 dcM5 pmM5 cdM5 ctM5 ocM6 kVM6 dcM6 pmM6 cdM6 ctM6 ocM7 kVM7 dcM7 pmM7 cdM7 ctM7 ocM8 kVM8 dcM8 pmM8 cdM8 ctM8 ocM9 kVM9 dcM9 pmM9 cdM9 ctM9 ocM10 kVM10 dcM10 pmM10 cdM10 ctM10 ocM11 kVM11 dcM11 pmM11 cdM11 ctM11 ocM12 kVM12 dcM12 pmM12 cdM12 ctM12 ocM13 kVM13 dcM13 pmM13 cdM13 ctM13 ocM14 kVM14 dcM14 pmM14 cdM14 ctM14 ocM15 kVM15 dcM15 pmM15 cdM15 ctM15 ocM16 kVM16 dcM16 pmM16 cdM16 ctM16 ocM17 kVM17 dcM17 pmM17 cdM17 ctM17 ocM18 kVM18 dcM18 pmM18 cdM18 ctM18 ocI kVI dcI pmI cdI ctI : Value} {c_MillError c_BadText : Addr} {t_LONGEST_TEXT t_LONGEST_NUMBER t_LONGEST_NAME t_MOST_FUNCTIONS t_MOST_LISTED t_DEEPEST t_MOST_TERMS t_MOST_BRACKETS t_LEAST_STRENGTH t_FIGURES t_LETTERS t_GAPS t_MARKS : Tok}
    {p_TOLD_WORDS p_COMPARING p_ONE_WORDS : Addr} {i_TOLD_WORDS i_COMPARING i_ONE_WORDS : Array Value} {n_TOLD_WORDS n_COMPARING n_ONE_WORDS : Nat} {o_TOLD_WORDS o_COMPARING o_ONE_WORDS : Option Addr} {s_TOLD_WORDS s_COMPARING s_ONE_WORDS : Array (Option Value)}
    {p_PARTS_FROM p_STRENGTHS : Addr} {i_PARTS_FROM i_STRENGTHS : Array DictEntry} {n_PARTS_FROM n_STRENGTHS : Nat}
    (a0 : PySem.W.nsIn K mainGlobals "words" = some (some (.ref f0))) (l0 : K.lookup f0 = some ⟨oc0, od0, .func (PySem.W.fnOf "words" "words" (defArgs K10.s_words) (defBody K10.s_words) (defScope K10.s_words) .none kV0 dc0 pm0 an0 cd0 ct0), sl0⟩) (c0 : PySem.W.codeIn K cd0 "words" = true) (k0 : PySem.W.keepIn K (.ref f0) = true)
    (a1 : PySem.W.nsIn K mainGlobals "word_from" = some (some (.ref f1))) (l1 : K.lookup f1 = some ⟨oc1, od1, .func (PySem.W.fnOf "word_from" "word_from" (defArgs K10.s_word_from) (defBody K10.s_word_from) (defScope K10.s_word_from) .none kV1 dc1 pm1 an1 cd1 ct1), sl1⟩) (c1 : PySem.W.codeIn K cd1 "word_from" = true) (k1 : PySem.W.keepIn K (.ref f1) = true)
    (a2 : PySem.W.nsIn K mainGlobals "in_long_word" = some (some (.ref f2))) (l2 : K.lookup f2 = some ⟨oc2, od2, .func (PySem.W.fnOf "in_long_word" "in_long_word" (defArgs K10.s_in_long_word) (defBody K10.s_in_long_word) (defScope K10.s_in_long_word) .none kV2 dc2 pm2 an2 cd2 ct2), sl2⟩) (c2 : PySem.W.codeIn K cd2 "in_long_word" = true) (k2 : PySem.W.keepIn K (.ref f2) = true)
    (a3 : PySem.W.nsIn K mainGlobals "long_word_from" = some (some (.ref f3))) (l3 : K.lookup f3 = some ⟨oc3, od3, .func (PySem.W.fnOf "long_word_from" "long_word_from" (defArgs K10.s_long_word_from) (defBody K10.s_long_word_from) (defScope K10.s_long_word_from) .none kV3 dc3 pm3 an3 cd3 ct3), sl3⟩) (c3 : PySem.W.codeIn K cd3 "long_word_from" = true) (k3 : PySem.W.keepIn K (.ref f3) = true)
    (a4 : PySem.W.nsIn K mainGlobals "is_number" = some (some (.ref f4))) (l4 : K.lookup f4 = some ⟨oc4, od4, .func (PySem.W.fnOf "is_number" "is_number" (defArgs K10.s_is_number) (defBody K10.s_is_number) (defScope K10.s_is_number) .none kV4 dc4 pm4 an4 cd4 ct4), sl4⟩) (c4 : PySem.W.codeIn K cd4 "is_number" = true) (k4 : PySem.W.keepIn K (.ref f4) = true)
    (a5 : PySem.W.nsIn K mainGlobals "is_told" = some (some (.ref f5))) (l5 : K.lookup f5 = some ⟨oc5, od5, .func (PySem.W.fnOf "is_told" "is_told" (defArgs K10.s_is_told) (defBody K10.s_is_told) (defScope K10.s_is_told) .none kV5 dc5 pm5 an5 cd5 ct5), sl5⟩) (c5 : PySem.W.codeIn K cd5 "is_told" = true) (k5 : PySem.W.keepIn K (.ref f5) = true)
    (a6 : PySem.W.nsIn K mainGlobals "is_name" = some (some (.ref f6))) (l6 : K.lookup f6 = some ⟨oc6, od6, .func (PySem.W.fnOf "is_name" "is_name" (defArgs K10.s_is_name) (defBody K10.s_is_name) (defScope K10.s_is_name) .none kV6 dc6 pm6 an6 cd6 ct6), sl6⟩) (c6 : PySem.W.codeIn K cd6 "is_name" = true) (k6 : PySem.W.keepIn K (.ref f6) = true)
    (a7 : PySem.W.nsIn K mainGlobals "parts_of" = some (some (.ref f7))) (l7 : K.lookup f7 = some ⟨oc7, od7, .func (PySem.W.fnOf "parts_of" "parts_of" (defArgs K15.s_parts_of) (defBody K15.s_parts_of) (defScope K15.s_parts_of) .none kV7 dc7 pm7 an7 cd7 ct7), sl7⟩) (c7 : PySem.W.codeIn K cd7 "parts_of" = true) (k7 : PySem.W.keepIn K (.ref f7) = true)
    (a8 : PySem.W.nsIn K mainGlobals "parts_of_all" = some (some (.ref f8))) (l8 : K.lookup f8 = some ⟨oc8, od8, .func (PySem.W.fnOf "parts_of_all" "parts_of_all" (defArgs K15.s_parts_of_all) (defBody K15.s_parts_of_all) (defScope K15.s_parts_of_all) .none kV8 dc8 pm8 an8 cd8 ct8), sl8⟩) (c8 : PySem.W.codeIn K cd8 "parts_of_all" = true) (k8 : PySem.W.keepIn K (.ref f8) = true)
    (a9 : PySem.W.nsIn K mainGlobals "depth_of" = some (some (.ref f9))) (l9 : K.lookup f9 = some ⟨oc9, od9, .func (PySem.W.fnOf "depth_of" "depth_of" (defArgs K15.s_depth_of) (defBody K15.s_depth_of) (defScope K15.s_depth_of) .none kV9 dc9 pm9 an9 cd9 ct9), sl9⟩) (c9 : PySem.W.codeIn K cd9 "depth_of" = true) (k9 : PySem.W.keepIn K (.ref f9) = true)
    (a10 : PySem.W.nsIn K mainGlobals "size_of" = some (some (.ref f10))) (l10 : K.lookup f10 = some ⟨oc10, od10, .func (PySem.W.fnOf "size_of" "size_of" (defArgs K15.s_size_of) (defBody K15.s_size_of) (defScope K15.s_size_of) .none kV10 dc10 pm10 an10 cd10 ct10), sl10⟩) (c10 : PySem.W.codeIn K cd10 "size_of" = true) (k10 : PySem.W.keepIn K (.ref f10) = true)
    (a11 : PySem.W.nsIn K mainGlobals "read" = some (some (.ref f11))) (l11 : K.lookup f11 = some ⟨oc11, od11, .func (PySem.W.fnOf "read" "read" (defArgs RD.s_read) (defBody RD.s_read) (defScope RD.s_read) .none kV11 dc11 pm11 an11 cd11 ct11), sl11⟩) (c11 : PySem.W.codeIn K cd11 "read" = true) (k11 : PySem.W.keepIn K (.ref f11) = true)
    (a12 : PySem.W.nsIn K mainGlobals "refuse_many_brackets" = some (some (.ref f12))) (l12 : K.lookup f12 = some ⟨oc12, od12, .func (PySem.W.fnOf "refuse_many_brackets" "refuse_many_brackets" (defArgs RD.s_refuse_many_brackets) (defBody RD.s_refuse_many_brackets) (defScope RD.s_refuse_many_brackets) .none kV12 dc12 pm12 an12 cd12 ct12), sl12⟩) (c12 : PySem.W.codeIn K cd12 "refuse_many_brackets" = true) (k12 : PySem.W.keepIn K (.ref f12) = true)
    (a13 : PySem.W.nsIn K mainGlobals "refuse_great" = some (some (.ref f13))) (l13 : K.lookup f13 = some ⟨oc13, od13, .func (PySem.W.fnOf "refuse_great" "refuse_great" (defArgs RD.s_refuse_great) (defBody RD.s_refuse_great) (defScope RD.s_refuse_great) .none kV13 dc13 pm13 an13 cd13 ct13), sl13⟩) (c13 : PySem.W.codeIn K cd13 "refuse_great" = true) (k13 : PySem.W.keepIn K (.ref f13) = true)
    (a14 : PySem.W.nsIn K mainGlobals "strength_behind" = some (some (.ref f14))) (l14 : K.lookup f14 = some ⟨oc14, od14, .func (PySem.W.fnOf "strength_behind" "strength_behind" (defArgs RD.s_strength_behind) (defBody RD.s_strength_behind) (defScope RD.s_strength_behind) .none kV14 dc14 pm14 an14 cd14 ct14), sl14⟩) (c14 : PySem.W.codeIn K cd14 "strength_behind" = true) (k14 : PySem.W.keepIn K (.ref f14) = true)
    (a15 : PySem.W.nsIn K mainGlobals "_law_cell_at" = some (some (.ref f15))) (l15 : K.lookup f15 = some ⟨oc15, od15, .func (PySem.W.fnOf "_law_cell_at" "_law_cell_at" (defArgs RD.s_law_cell_at) (defBody RD.s_law_cell_at) (defScope RD.s_law_cell_at) .none kV15 dc15 pm15 an15 cd15 ct15), sl15⟩) (c15 : PySem.W.codeIn K cd15 "_law_cell_at" = true) (k15 : PySem.W.keepIn K (.ref f15) = true)
    (a16 : PySem.W.nsIn K mainGlobals "_law_row" = some (some (.ref f16))) (l16 : K.lookup f16 = some ⟨oc16, od16, .func (PySem.W.fnOf "_law_row" "_law_row" (defArgs RD.s_law_row) (defBody RD.s_law_row) (defScope RD.s_law_row) .none kV16 dc16 pm16 an16 cd16 ct16), sl16⟩) (c16 : PySem.W.codeIn K cd16 "_law_row" = true) (k16 : PySem.W.keepIn K (.ref f16) = true)
    (a17 : PySem.W.nsIn K mainGlobals "_law_applied" = some (some (.ref f17))) (l17 : K.lookup f17 = some ⟨oc17, od17, .func (PySem.W.fnOf "_law_applied" "_law_applied" (defArgs RD.s_law_applied) (defBody RD.s_law_applied) (defScope RD.s_law_applied) .none kV17 dc17 pm17 an17 cd17 ct17), sl17⟩) (c17 : PySem.W.codeIn K cd17 "_law_applied" = true) (k17 : PySem.W.keepIn K (.ref f17) = true)
    (a18 : PySem.W.nsIn K mainGlobals "_law_from_left" = some (some (.ref f18))) (l18 : K.lookup f18 = some ⟨oc18, od18, .func (PySem.W.fnOf "_law_from_left" "_law_from_left" (defArgs RD.s_law_from_left) (defBody RD.s_law_from_left) (defScope RD.s_law_from_left) .none kV18 dc18 pm18 an18 cd18 ct18), sl18⟩) (c18 : PySem.W.codeIn K cd18 "_law_from_left" = true) (k18 : PySem.W.keepIn K (.ref f18) = true)
    (a19 : PySem.W.nsIn K mainGlobals "_law_from_right" = some (some (.ref f19))) (l19 : K.lookup f19 = some ⟨oc19, od19, .func (PySem.W.fnOf "_law_from_right" "_law_from_right" (defArgs RD.s_law_from_right) (defBody RD.s_law_from_right) (defScope RD.s_law_from_right) .none kV19 dc19 pm19 an19 cd19 ct19), sl19⟩) (c19 : PySem.W.codeIn K cd19 "_law_from_right" = true) (k19 : PySem.W.keepIn K (.ref f19) = true)
    (a20 : PySem.W.nsIn K mainGlobals "_law_tree" = some (some (.ref f20))) (l20 : K.lookup f20 = some ⟨oc20, od20, .func (PySem.W.fnOf "_law_tree" "_law_tree" (defArgs RD.s_law_tree) (defBody RD.s_law_tree) (defScope RD.s_law_tree) .none kV20 dc20 pm20 an20 cd20 ct20), sl20⟩) (c20 : PySem.W.codeIn K cd20 "_law_tree" = true) (k20 : PySem.W.keepIn K (.ref f20) = true)
    (a21 : PySem.W.nsIn K mainGlobals "_law_text" = some (some (.ref f21))) (l21 : K.lookup f21 = some ⟨oc21, od21, .func (PySem.W.fnOf "_law_text" "_law_text" (defArgs RD.s_law_text) (defBody RD.s_law_text) (defScope RD.s_law_text) .none kV21 dc21 pm21 an21 cd21 ct21), sl21⟩) (c21 : PySem.W.codeIn K cd21 "_law_text" = true) (k21 : PySem.W.keepIn K (.ref f21) = true)
    (a22 : PySem.W.nsIn K mainGlobals "_law_long" = some (some (.ref f22))) (l22 : K.lookup f22 = some ⟨oc22, od22, .func (PySem.W.fnOf "_law_long" "_law_long" (defArgs RD.s_law_long) (defBody RD.s_law_long) (defScope RD.s_law_long) .none kV22 dc22 pm22 an22 cd22 ct22), sl22⟩) (c22 : PySem.W.codeIn K cd22 "_law_long" = true) (k22 : PySem.W.keepIn K (.ref f22) = true)
    (a23 : PySem.W.nsIn K mainGlobals "_law_wrapped" = some (some (.ref f23))) (l23 : K.lookup f23 = some ⟨oc23, od23, .func (PySem.W.fnOf "_law_wrapped" "_law_wrapped" (defArgs RD.s_law_wrapped) (defBody RD.s_law_wrapped) (defScope RD.s_law_wrapped) .none kV23 dc23 pm23 an23 cd23 ct23), sl23⟩) (c23 : PySem.W.codeIn K cd23 "_law_wrapped" = true) (k23 : PySem.W.keepIn K (.ref f23) = true)
    (a24 : PySem.W.nsIn K mainGlobals "_law_last" = some (some (.ref f24))) (l24 : K.lookup f24 = some ⟨oc24, od24, .func (PySem.W.fnOf "_law_last" "_law_last" (defArgs RD.s_law_last) (defBody RD.s_law_last) (defScope RD.s_law_last) .none kV24 dc24 pm24 an24 cd24 ct24), sl24⟩) (c24 : PySem.W.codeIn K cd24 "_law_last" = true) (k24 : PySem.W.keepIn K (.ref f24) = true)
    (a25 : PySem.W.nsIn K mainGlobals "law" = some (some (.ref f25))) (l25 : K.lookup f25 = some ⟨oc25, od25, .func (PySem.W.fnOf "law" "law" (defArgs RD.s_law) (defBody RD.s_law) (defScope RD.s_law) .none kV25 dc25 pm25 an25 cd25 ct25), sl25⟩) (c25 : PySem.W.codeIn K cd25 "law" = true) (k25 : PySem.W.keepIn K (.ref f25) = true)
    (aC : PySem.W.nsIn K mainGlobals "Reader" = some (some (.ref C)))
    (aM0 : PySem.W.findIn K (.ref C) "ahead" = some (some (.ref fM0))) (lM0 : K.lookup fM0 = some ⟨ocM0, odM0, .func (PySem.W.fnOf "ahead" "Reader.ahead" (defArgs RD.s_ahead) (defBody RD.s_ahead) (defScope RD.s_ahead) .none kVM0 dcM0 pmM0 anM0 cdM0 ctM0), slM0⟩) (cM0 : PySem.W.codeIn K cdM0 "Reader.ahead" = true) (kM0 : PySem.W.keepIn K (.ref fM0) = true)
    (jM0 : PySem.W.isFn K (.ref fM0) = true)
    (aM1 : PySem.W.findIn K (.ref C) "take" = some (some (.ref fM1))) (lM1 : K.lookup fM1 = some ⟨ocM1, odM1, .func (PySem.W.fnOf "take" "Reader.take" (defArgs RD.s_take) (defBody RD.s_take) (defScope RD.s_take) .none kVM1 dcM1 pmM1 anM1 cdM1 ctM1), slM1⟩) (cM1 : PySem.W.codeIn K cdM1 "Reader.take" = true) (kM1 : PySem.W.keepIn K (.ref fM1) = true)
    (jM1 : PySem.W.isFn K (.ref fM1) = true)
    (aM2 : PySem.W.findIn K (.ref C) "expect" = some (some (.ref fM2))) (lM2 : K.lookup fM2 = some ⟨ocM2, odM2, .func (PySem.W.fnOf "expect" "Reader.expect" (defArgs RD.s_expect) (defBody RD.s_expect) (defScope RD.s_expect) .none kVM2 dcM2 pmM2 anM2 cdM2 ctM2), slM2⟩) (cM2 : PySem.W.codeIn K cdM2 "Reader.expect" = true) (kM2 : PySem.W.keepIn K (.ref fM2) = true)
    (jM2 : PySem.W.isFn K (.ref fM2) = true)
    (aM3 : PySem.W.findIn K (.ref C) "read_program" = some (some (.ref fM3))) (lM3 : K.lookup fM3 = some ⟨ocM3, odM3, .func (PySem.W.fnOf "read_program" "Reader.read_program" (defArgs RD.s_read_program) (defBody RD.s_read_program) (defScope RD.s_read_program) .none kVM3 dcM3 pmM3 anM3 cdM3 ctM3), slM3⟩) (cM3 : PySem.W.codeIn K cdM3 "Reader.read_program" = true) (kM3 : PySem.W.keepIn K (.ref fM3) = true)
    (jM3 : PySem.W.isFn K (.ref fM3) = true)
    (aM4 : PySem.W.findIn K (.ref C) "read_function" = some (some (.ref fM4))) (lM4 : K.lookup fM4 = some ⟨ocM4, odM4, .func (PySem.W.fnOf "read_function" "Reader.read_function" (defArgs RD.s_read_function) (defBody RD.s_read_function) (defScope RD.s_read_function) .none kVM4 dcM4 pmM4 anM4 cdM4 ctM4), slM4⟩) (cM4 : PySem.W.codeIn K cdM4 "Reader.read_function" = true) (kM4 : PySem.W.keepIn K (.ref fM4) = true)
    (jM4 : PySem.W.isFn K (.ref fM4) = true)
    (aM5 : PySem.W.findIn K (.ref C) "read_name" = some (some (.ref fM5))) (lM5 : K.lookup fM5 = some ⟨ocM5, odM5, .func (PySem.W.fnOf "read_name" "Reader.read_name" (defArgs RD.s_read_name) (defBody RD.s_read_name) (defScope RD.s_read_name) .none kVM5 dcM5 pmM5 anM5 cdM5 ctM5), slM5⟩) (cM5 : PySem.W.codeIn K cdM5 "Reader.read_name" = true) (kM5 : PySem.W.keepIn K (.ref fM5) = true)
    (jM5 : PySem.W.isFn K (.ref fM5) = true)
    (aM6 : PySem.W.findIn K (.ref C) "read_names" = some (some (.ref fM6))) (lM6 : K.lookup fM6 = some ⟨ocM6, odM6, .func (PySem.W.fnOf "read_names" "Reader.read_names" (defArgs RD.s_read_names) (defBody RD.s_read_names) (defScope RD.s_read_names) .none kVM6 dcM6 pmM6 anM6 cdM6 ctM6), slM6⟩) (cM6 : PySem.W.codeIn K cdM6 "Reader.read_names" = true) (kM6 : PySem.W.keepIn K (.ref fM6) = true)
    (jM6 : PySem.W.isFn K (.ref fM6) = true)
    (aM7 : PySem.W.findIn K (.ref C) "read_terms" = some (some (.ref fM7))) (lM7 : K.lookup fM7 = some ⟨ocM7, odM7, .func (PySem.W.fnOf "read_terms" "Reader.read_terms" (defArgs RD.s_read_terms) (defBody RD.s_read_terms) (defScope RD.s_read_terms) .none kVM7 dcM7 pmM7 anM7 cdM7 ctM7), slM7⟩) (cM7 : PySem.W.codeIn K cdM7 "Reader.read_terms" = true) (kM7 : PySem.W.keepIn K (.ref fM7) = true)
    (jM7 : PySem.W.isFn K (.ref fM7) = true)
    (aM8 : PySem.W.findIn K (.ref C) "goes_on" = some (some (.ref fM8))) (lM8 : K.lookup fM8 = some ⟨ocM8, odM8, .func (PySem.W.fnOf "goes_on" "Reader.goes_on" (defArgs RD.s_goes_on) (defBody RD.s_goes_on) (defScope RD.s_goes_on) .none kVM8 dcM8 pmM8 anM8 cdM8 ctM8), slM8⟩) (cM8 : PySem.W.codeIn K cdM8 "Reader.goes_on" = true) (kM8 : PySem.W.keepIn K (.ref fM8) = true)
    (jM8 : PySem.W.isFn K (.ref fM8) = true)
    (aM9 : PySem.W.findIn K (.ref C) "read_term" = some (some (.ref fM9))) (lM9 : K.lookup fM9 = some ⟨ocM9, odM9, .func (PySem.W.fnOf "read_term" "Reader.read_term" (defArgs RD.s_read_term) (defBody RD.s_read_term) (defScope RD.s_read_term) .none kVM9 dcM9 pmM9 anM9 cdM9 ctM9), slM9⟩) (cM9 : PySem.W.codeIn K cdM9 "Reader.read_term" = true) (kM9 : PySem.W.keepIn K (.ref fM9) = true)
    (jM9 : PySem.W.isFn K (.ref fM9) = true)
    (aM10 : PySem.W.findIn K (.ref C) "read_row" = some (some (.ref fM10))) (lM10 : K.lookup fM10 = some ⟨ocM10, odM10, .func (PySem.W.fnOf "read_row" "Reader.read_row" (defArgs RD.s_read_row) (defBody RD.s_read_row) (defScope RD.s_read_row) .none kVM10 dcM10 pmM10 anM10 cdM10 ctM10), slM10⟩) (cM10 : PySem.W.codeIn K cdM10 "Reader.read_row" = true) (kM10 : PySem.W.keepIn K (.ref fM10) = true)
    (jM10 : PySem.W.isFn K (.ref fM10) = true)
    (aM11 : PySem.W.findIn K (.ref C) "refuse_side_by_side" = some (some (.ref fM11))) (lM11 : K.lookup fM11 = some ⟨ocM11, odM11, .func (PySem.W.fnOf "refuse_side_by_side" "Reader.refuse_side_by_side" (defArgs RD.s_refuse_side_by_side) (defBody RD.s_refuse_side_by_side) (defScope RD.s_refuse_side_by_side) .none kVM11 dcM11 pmM11 anM11 cdM11 ctM11), slM11⟩) (cM11 : PySem.W.codeIn K cdM11 "Reader.refuse_side_by_side" = true) (kM11 : PySem.W.keepIn K (.ref fM11) = true)
    (jM11 : PySem.W.isFn K (.ref fM11) = true)
    (aM12 : PySem.W.findIn K (.ref C) "read_operand" = some (some (.ref fM12))) (lM12 : K.lookup fM12 = some ⟨ocM12, odM12, .func (PySem.W.fnOf "read_operand" "Reader.read_operand" (defArgs RD.s_read_operand) (defBody RD.s_read_operand) (defScope RD.s_read_operand) .none kVM12 dcM12 pmM12 anM12 cdM12 ctM12), slM12⟩) (cM12 : PySem.W.codeIn K cdM12 "Reader.read_operand" = true) (kM12 : PySem.W.keepIn K (.ref fM12) = true)
    (jM12 : PySem.W.isFn K (.ref fM12) = true)
    (aM13 : PySem.W.findIn K (.ref C) "read_tight_or_wide" = some (some (.ref fM13))) (lM13 : K.lookup fM13 = some ⟨ocM13, odM13, .func (PySem.W.fnOf "read_tight_or_wide" "Reader.read_tight_or_wide" (defArgs RD.s_read_tight_or_wide) (defBody RD.s_read_tight_or_wide) (defScope RD.s_read_tight_or_wide) .none kVM13 dcM13 pmM13 anM13 cdM13 ctM13), slM13⟩) (cM13 : PySem.W.codeIn K cdM13 "Reader.read_tight_or_wide" = true) (kM13 : PySem.W.keepIn K (.ref fM13) = true)
    (jM13 : PySem.W.isFn K (.ref fM13) = true)
    (aM14 : PySem.W.findIn K (.ref C) "read_if" = some (some (.ref fM14))) (lM14 : K.lookup fM14 = some ⟨ocM14, odM14, .func (PySem.W.fnOf "read_if" "Reader.read_if" (defArgs RD.s_read_if) (defBody RD.s_read_if) (defScope RD.s_read_if) .none kVM14 dcM14 pmM14 anM14 cdM14 ctM14), slM14⟩) (cM14 : PySem.W.codeIn K cdM14 "Reader.read_if" = true) (kM14 : PySem.W.keepIn K (.ref fM14) = true)
    (jM14 : PySem.W.isFn K (.ref fM14) = true)
    (aM15 : PySem.W.findIn K (.ref C) "read_let" = some (some (.ref fM15))) (lM15 : K.lookup fM15 = some ⟨ocM15, odM15, .func (PySem.W.fnOf "read_let" "Reader.read_let" (defArgs RD.s_read_let) (defBody RD.s_read_let) (defScope RD.s_read_let) .none kVM15 dcM15 pmM15 anM15 cdM15 ctM15), slM15⟩) (cM15 : PySem.W.codeIn K cdM15 "Reader.read_let" = true) (kM15 : PySem.W.keepIn K (.ref fM15) = true)
    (jM15 : PySem.W.isFn K (.ref fM15) = true)
    (aM16 : PySem.W.findIn K (.ref C) "read_fn" = some (some (.ref fM16))) (lM16 : K.lookup fM16 = some ⟨ocM16, odM16, .func (PySem.W.fnOf "read_fn" "Reader.read_fn" (defArgs RD.s_read_fn) (defBody RD.s_read_fn) (defScope RD.s_read_fn) .none kVM16 dcM16 pmM16 anM16 cdM16 ctM16), slM16⟩) (cM16 : PySem.W.codeIn K cdM16 "Reader.read_fn" = true) (kM16 : PySem.W.keepIn K (.ref fM16) = true)
    (jM16 : PySem.W.isFn K (.ref fM16) = true)
    (aM17 : PySem.W.findIn K (.ref C) "read_tight" = some (some (.ref fM17))) (lM17 : K.lookup fM17 = some ⟨ocM17, odM17, .func (PySem.W.fnOf "read_tight" "Reader.read_tight" (defArgs RD.s_read_tight) (defBody RD.s_read_tight) (defScope RD.s_read_tight) .none kVM17 dcM17 pmM17 anM17 cdM17 ctM17), slM17⟩) (cM17 : PySem.W.codeIn K cdM17 "Reader.read_tight" = true) (kM17 : PySem.W.keepIn K (.ref fM17) = true)
    (jM17 : PySem.W.isFn K (.ref fM17) = true)
    (aM18 : PySem.W.findIn K (.ref C) "read_named" = some (some (.ref fM18))) (lM18 : K.lookup fM18 = some ⟨ocM18, odM18, .func (PySem.W.fnOf "read_named" "Reader.read_named" (defArgs RD.s_read_named) (defBody RD.s_read_named) (defScope RD.s_read_named) .none kVM18 dcM18 pmM18 anM18 cdM18 ctM18), slM18⟩) (cM18 : PySem.W.codeIn K cdM18 "Reader.read_named" = true) (kM18 : PySem.W.keepIn K (.ref fM18) = true)
    (jM18 : PySem.W.isFn K (.ref fM18) = true)
    (aI : PySem.W.findIn K (.ref C) "__init__" = some (some (.ref fI))) (lI : K.lookup fI = some ⟨ocI, odI, .func (PySem.W.fnOf "__init__" "Reader.__init__" (defArgs RD.s_init) (defBody RD.s_init) (defScope RD.s_init) .none kVI dcI pmI anI cdI ctI), slI⟩) (cI : PySem.W.codeIn K cdI "Reader.__init__" = true) (kI : PySem.W.keepIn K (.ref fI) = true)
    (jI : PySem.W.isFn K (.ref fI) = true)
    (pg : PySem.W.plainGet K C Str.empty = true) (hd : PySem.W.hasDictIn K C = true) (po : PySem.W.plainOver K C = true) (sa : PySem.W.findIn K (.ref C) "__setattr__" = some (some (.builtin "object.__setattr__"))) (mk : PySem.W.makesIn K C = true) (kc : PySem.W.keepIn K (.ref C) = true) (nf : PySem.W.findIn K (.ref C) "found" = some none) (np : PySem.W.findIn K (.ref C) "place" = some none)
    (e_LONGEST_TEXT : PySem.W.nsIn K mainGlobals "LONGEST_TEXT" = some (some (.int 4000 t_LONGEST_TEXT)))
    (e_LONGEST_NUMBER : PySem.W.nsIn K mainGlobals "LONGEST_NUMBER" = some (some (.int 12 t_LONGEST_NUMBER)))
    (e_LONGEST_NAME : PySem.W.nsIn K mainGlobals "LONGEST_NAME" = some (some (.int 8 t_LONGEST_NAME)))
    (e_MOST_FUNCTIONS : PySem.W.nsIn K mainGlobals "MOST_FUNCTIONS" = some (some (.int 12 t_MOST_FUNCTIONS)))
    (e_MOST_LISTED : PySem.W.nsIn K mainGlobals "MOST_LISTED" = some (some (.int 4 t_MOST_LISTED)))
    (e_DEEPEST : PySem.W.nsIn K mainGlobals "DEEPEST" = some (some (.int 16 t_DEEPEST)))
    (e_MOST_TERMS : PySem.W.nsIn K mainGlobals "MOST_TERMS" = some (some (.int 400 t_MOST_TERMS)))
    (e_MOST_BRACKETS : PySem.W.nsIn K mainGlobals "MOST_BRACKETS" = some (some (.int 16 t_MOST_BRACKETS)))
    (e_LEAST_STRENGTH : PySem.W.nsIn K mainGlobals "LEAST_STRENGTH" = some (some (.int 1 t_LEAST_STRENGTH)))
    (e_FIGURES : PySem.W.nsIn K mainGlobals "FIGURES" = some (some (.str "0123456789" t_FIGURES)))
    (e_LETTERS : PySem.W.nsIn K mainGlobals "LETTERS" = some (some (.str "abcdefghijklmnopqrstuvwxyz" t_LETTERS)))
    (e_GAPS : PySem.W.nsIn K mainGlobals "GAPS" = some (some (.str " \t\n" t_GAPS)))
    (e_MARKS : PySem.W.nsIn K mainGlobals "MARKS" = some (some (.str "(),=+-*/<:![]" t_MARKS)))
    (aW_TOLD_WORDS : PySem.W.nsIn K mainGlobals "TOLD_WORDS" = some (some (.ref p_TOLD_WORDS))) (lW_TOLD_WORDS : K.lookup p_TOLD_WORDS = some ⟨.type "tuple", o_TOLD_WORDS, .seq i_TOLD_WORDS n_TOLD_WORDS, s_TOLD_WORDS⟩) (zW_TOLD_WORDS : i_TOLD_WORDS.size ≤ sizeLine) (vW_TOLD_WORDS : Vals [V.str "def", V.str "if", V.str "then", V.str "else", V.str "let", V.str "in", V.str "fn", V.str "yes", V.str "no", V.str "head", V.str "tail", V.str "empty", V.str "not"] i_TOLD_WORDS.toList)
    (aW_COMPARING : PySem.W.nsIn K mainGlobals "COMPARING" = some (some (.ref p_COMPARING))) (lW_COMPARING : K.lookup p_COMPARING = some ⟨.type "tuple", o_COMPARING, .seq i_COMPARING n_COMPARING, s_COMPARING⟩) (zW_COMPARING : i_COMPARING.size ≤ sizeLine) (vW_COMPARING : Vals [V.str "<", V.str "="] i_COMPARING.toList)
    (aW_ONE_WORDS : PySem.W.nsIn K mainGlobals "ONE_WORDS" = some (some (.ref p_ONE_WORDS))) (lW_ONE_WORDS : K.lookup p_ONE_WORDS = some ⟨.type "tuple", o_ONE_WORDS, .seq i_ONE_WORDS n_ONE_WORDS, s_ONE_WORDS⟩) (zW_ONE_WORDS : i_ONE_WORDS.size ≤ sizeLine) (vW_ONE_WORDS : Vals [V.str "head", V.str "tail", V.str "empty", V.str "not"] i_ONE_WORDS.toList)
    (aD_PARTS_FROM : PySem.W.nsIn K mainGlobals "PARTS_FROM" = some (some (.ref p_PARTS_FROM))) (lD_PARTS_FROM : K.lookup p_PARTS_FROM = some ⟨.type "dict", none, .dict i_PARTS_FROM n_PARTS_FROM, #[]⟩) (kD_PARTS_FROM : PySem.W.KeysLit w.params i_PARTS_FROM.toList) (pD_PARTS_FROM : Paired (fun (p : Str × V) (e : DictEntry) => (∃ t, e.key = .str p.1 t) ∧ RelV p.2 e.val) K15.PF i_PARTS_FROM.toList) (oD_PARTS_FROM : (p_PARTS_FROM == sysModules) = false)
    (aD_STRENGTHS : PySem.W.nsIn K mainGlobals "STRENGTHS" = some (some (.ref p_STRENGTHS))) (lD_STRENGTHS : K.lookup p_STRENGTHS = some ⟨.type "dict", none, .dict i_STRENGTHS n_STRENGTHS, #[]⟩) (kD_STRENGTHS : PySem.W.KeysLit w.params i_STRENGTHS.toList) (pD_STRENGTHS : Paired (fun (p : Str × V) (e : DictEntry) => (∃ t, e.key = .str p.1 t) ∧ RelV p.2 e.val) RD.SD i_STRENGTHS.toList) (oD_STRENGTHS : (p_STRENGTHS == sysModules) = false)
    (g_MillError : PySem.W.nsIn K mainGlobals "MillError" = some (some (.ref c_MillError))) (q_MillError : PySem.W.excIn K c_MillError [.type "ValueError", .type "Exception", .type "BaseException", .type "object"] "ValueError.__new__" = true)
    (g_BadText : PySem.W.nsIn K mainGlobals "BadText" = some (some (.ref c_BadText))) (q_BadText : PySem.W.excIn K c_BadText [.type "ValueError", .type "Exception", .type "BaseException", .type "object"] "ValueError.__new__" = true)
    (z_len : PySem.W.nsIn K mainGlobals "len" = some none) (z_isinstance : PySem.W.nsIn K mainGlobals "isinstance" = some none) (z_range : PySem.W.nsIn K mainGlobals "range" = some none) (z_list : PySem.W.nsIn K mainGlobals "list" = some none) (z_str : PySem.W.nsIn K mainGlobals "str" = some none) (z_all : PySem.W.nsIn K mainGlobals "all" = some none) (z_ValueError : PySem.W.nsIn K mainGlobals "ValueError" = some none) (z_tuple : PySem.W.nsIn K mainGlobals "tuple" = some none) (z_int : PySem.W.nsIn K mainGlobals "int" = some none) (z_any : PySem.W.nsIn K mainGlobals "any" = some none) (z_sum : PySem.W.nsIn K mainGlobals "sum" = some none) (z_bool : PySem.W.nsIn K mainGlobals "bool" = some none) (z_max : PySem.W.nsIn K mainGlobals "max" = some none) (z_min : PySem.W.nsIn K mainGlobals "min" = some none) :
    ∃ fd : FuncData, (∀ (s : Shared) (v : Value), BindsTo s fd ⟨[v], []⟩ [("_law_script", v)]) ∧ ∀ base : Heap, K.In base → base.Ns mainGlobals mg → FnOk l.prog w K mg base CX0 236 fa fd ["_law_script"] (spLaw K) := by
  have e := hfa.symm.trans (PySem.W.mg_of X G a25)
  cases e
  have B10 : K10.NoG mg := ⟨PySem.W.mg_none_of X G z_len, PySem.W.mg_none_of X G z_isinstance, PySem.W.mg_none_of X G z_range, PySem.W.mg_none_of X G z_list, PySem.W.mg_none_of X G z_str, PySem.W.mg_none_of X G z_all, PySem.W.mg_none_of X G z_ValueError⟩
  have B15 : K15.NoG mg := ⟨PySem.W.mg_none_of X G z_len, PySem.W.mg_none_of X G z_max, PySem.W.mg_none_of X G z_min, PySem.W.mg_none_of X G z_isinstance, PySem.W.mg_none_of X G z_range, PySem.W.mg_none_of X G z_list, PySem.W.mg_none_of X G z_tuple, PySem.W.mg_none_of X G z_int, PySem.W.mg_none_of X G z_bool⟩
  have B : NoG mg := { toNoG := B10, tuple_ := PySem.W.mg_none_of X G z_tuple, int_ := PySem.W.mg_none_of X G z_int, any_ := PySem.W.mg_none_of X G z_any, sum_ := PySem.W.mg_none_of X G z_sum, bool_ := PySem.W.mg_none_of X G z_bool }
  have m_LONGEST_TEXT := PySem.W.mg_of X G e_LONGEST_TEXT
  have m_LONGEST_NUMBER := PySem.W.mg_of X G e_LONGEST_NUMBER
  have m_LONGEST_NAME := PySem.W.mg_of X G e_LONGEST_NAME
  have m_MOST_FUNCTIONS := PySem.W.mg_of X G e_MOST_FUNCTIONS
  have m_MOST_LISTED := PySem.W.mg_of X G e_MOST_LISTED
  have m_DEEPEST := PySem.W.mg_of X G e_DEEPEST
  have m_MOST_TERMS := PySem.W.mg_of X G e_MOST_TERMS
  have m_MOST_BRACKETS := PySem.W.mg_of X G e_MOST_BRACKETS
  have m_LEAST_STRENGTH := PySem.W.mg_of X G e_LEAST_STRENGTH
  have m_FIGURES := PySem.W.mg_of X G e_FIGURES
  have m_LETTERS := PySem.W.mg_of X G e_LETTERS
  have m_GAPS := PySem.W.mg_of X G e_GAPS
  have m_MARKS := PySem.W.mg_of X G e_MARKS
  have m_TOLD_WORDS := PySem.W.mg_of X G aW_TOLD_WORDS
  have m_COMPARING := PySem.W.mg_of X G aW_COMPARING
  have m_ONE_WORDS := PySem.W.mg_of X G aW_ONE_WORDS
  have m_PARTS_FROM := PySem.W.mg_of X G aD_PARTS_FROM
  have TD_PARTS_FROM : TopD w K p_PARTS_FROM K15.PF := ⟨⟨i_PARTS_FROM, n_PARTS_FROM, lD_PARTS_FROM, kD_PARTS_FROM, pD_PARTS_FROM⟩, oD_PARTS_FROM⟩
  have m_STRENGTHS := PySem.W.mg_of X G aD_STRENGTHS
  have TD_STRENGTHS : TopD w K p_STRENGTHS RD.SD := ⟨⟨i_STRENGTHS, n_STRENGTHS, lD_STRENGTHS, kD_STRENGTHS, pD_STRENGTHS⟩, oD_STRENGTHS⟩
  have TW : ∀ H : Hp, SqT K H p_TOLD_WORDS (K10.toldW.map fun l => V.str (tx l)) := fun H => .inr ⟨_, i_TOLD_WORDS, n_TOLD_WORDS, lW_TOLD_WORDS, rfl, rfl, zW_TOLD_WORDS, by rw [told_eq]; exact vW_TOLD_WORDS⟩
  have CM : ∀ H : Hp, SqT K H p_COMPARING cmpVs := fun H => .inr ⟨_, i_COMPARING, n_COMPARING, lW_COMPARING, rfl, rfl, zW_COMPARING, vW_COMPARING⟩
  have OW : ∀ H : Hp, SqT K H p_ONE_WORDS oneVs := fun H => .inr ⟨_, i_ONE_WORDS, n_ONE_WORDS, lW_ONE_WORDS, rfl, rfl, zW_ONE_WORDS, vW_ONE_WORDS⟩
  have X_MillError : XCls K mg "MillError" c_MillError := ⟨q_MillError, PySem.W.mg_of X G g_MillError⟩
  have X_BadText : XCls K mg "BadText" c_BadText := ⟨q_BadText, PySem.W.mg_of X G g_BadText⟩
  have TK : Takes K c_BadText fun c => c = c_BadText := ⟨⟨_, _, q_BadText, by decide⟩, fun c e => by subst e; exact ⟨⟨_, _, q_BadText⟩, by simp⟩⟩
  have F0 := fun_mk (st := K10.s_words) l0 c0 k0
  have b0 := F0.binds (ps := ["text"]) fun _ _ _ _ _ _ us hl => match us, hl with | [_], _ => rfl
  have m0 := PySem.W.mg_of X G a0
  have F1 := fun_mk (st := K10.s_word_from) l1 c1 k1
  have b1 := F1.binds (ps := ["text", "place"]) fun _ _ _ _ _ _ us hl => match us, hl with | [_, _], _ => rfl
  have m1 := PySem.W.mg_of X G a1
  have F2 := fun_mk (st := K10.s_in_long_word) l2 c2 k2
  have b2 := F2.binds (ps := ["sign"]) fun _ _ _ _ _ _ us hl => match us, hl with | [_], _ => rfl
  have m2 := PySem.W.mg_of X G a2
  have F3 := fun_mk (st := K10.s_long_word_from) l3 c3 k3
  have b3 := F3.binds (ps := ["text", "place"]) fun _ _ _ _ _ _ us hl => match us, hl with | [_, _], _ => rfl
  have m3 := PySem.W.mg_of X G a3
  have F4 := fun_mk (st := K10.s_is_number) l4 c4 k4
  have b4 := F4.binds (ps := ["word"]) fun _ _ _ _ _ _ us hl => match us, hl with | [_], _ => rfl
  have m4 := PySem.W.mg_of X G a4
  have F5 := fun_mk (st := K10.s_is_told) l5 c5 k5
  have b5 := F5.binds (ps := ["word"]) fun _ _ _ _ _ _ us hl => match us, hl with | [_], _ => rfl
  have m5 := PySem.W.mg_of X G a5
  have F6 := fun_mk (st := K10.s_is_name) l6 c6 k6
  have b6 := F6.binds (ps := ["word"]) fun _ _ _ _ _ _ us hl => match us, hl with | [_], _ => rfl
  have m6 := PySem.W.mg_of X G a6
  have F7 := fun_mk (st := K15.s_parts_of) l7 c7 k7
  have b7 := F7.binds (ps := ["term"]) fun _ _ _ _ _ _ us hl => match us, hl with | [_], _ => rfl
  have m7 := PySem.W.mg_of X G a7
  have F8 := fun_mk (st := K15.s_parts_of_all) l8 c8 k8
  have b8 := F8.binds (ps := ["terms"]) fun _ _ _ _ _ _ us hl => match us, hl with | [_], _ => rfl
  have m8 := PySem.W.mg_of X G a8
  have F9 := fun_mk (st := K15.s_depth_of) l9 c9 k9
  have b9 := F9.binds (ps := ["term"]) fun _ _ _ _ _ _ us hl => match us, hl with | [_], _ => rfl
  have m9 := PySem.W.mg_of X G a9
  have F10 := fun_mk (st := K15.s_size_of) l10 c10 k10
  have b10 := F10.binds (ps := ["term"]) fun _ _ _ _ _ _ us hl => match us, hl with | [_], _ => rfl
  have m10 := PySem.W.mg_of X G a10
  have F11 := fun_mk (st := RD.s_read) l11 c11 k11
  have b11 := F11.binds (ps := ["text"]) fun _ _ _ _ _ _ us hl => match us, hl with | [_], _ => rfl
  have m11 := PySem.W.mg_of X G a11
  have F12 := fun_mk (st := RD.s_refuse_many_brackets) l12 c12 k12
  have b12 := F12.binds (ps := ["found"]) fun _ _ _ _ _ _ us hl => match us, hl with | [_], _ => rfl
  have m12 := PySem.W.mg_of X G a12
  have F13 := fun_mk (st := RD.s_refuse_great) l13 c13 k13
  have b13 := F13.binds (ps := ["program"]) fun _ _ _ _ _ _ us hl => match us, hl with | [_], _ => rfl
  have m13 := PySem.W.mg_of X G a13
  have F14 := fun_mk (st := RD.s_strength_behind) l14 c14 k14
  have b14 := F14.binds (ps := ["sign"]) fun _ _ _ _ _ _ us hl => match us, hl with | [_], _ => rfl
  have m14 := PySem.W.mg_of X G a14
  have F15 := fun_mk (st := RD.s_law_cell_at) l15 c15 k15
  have b15 := F15.binds (ps := ["_law_script", "_law_k"]) fun _ _ _ _ _ _ us hl => match us, hl with | [_, _], _ => rfl
  have m15 := PySem.W.mg_of X G a15
  have F16 := fun_mk (st := RD.s_law_row) l16 c16 k16
  have b16 := F16.binds (ps := ["_law_cells"]) fun _ _ _ _ _ _ us hl => match us, hl with | [_], _ => rfl
  have m16 := PySem.W.mg_of X G a16
  have F17 := fun_mk (st := RD.s_law_applied) l17 c17 k17
  have b17 := F17.binds (ps := ["_law_things", "_law_signs", "_law_last_here"]) fun _ _ _ _ _ _ us hl => match us, hl with | [_, _, _], _ => rfl
  have m17 := PySem.W.mg_of X G a17
  have F18 := fun_mk (st := RD.s_law_from_left) l18 c18 k18
  have b18 := F18.binds (ps := ["_law_found", "_law_signs", "_law_some"]) fun _ _ _ _ _ _ us hl => match us, hl with | [_, _, _], _ => rfl
  have m18 := PySem.W.mg_of X G a18
  have F19 := fun_mk (st := RD.s_law_from_right) l19 c19 k19
  have b19 := F19.binds (ps := ["_law_found", "_law_signs"]) fun _ _ _ _ _ _ us hl => match us, hl with | [_, _], _ => rfl
  have m19 := PySem.W.mg_of X G a19
  have F20 := fun_mk (st := RD.s_law_tree) l20 c20 k20
  have b20 := F20.binds (ps := ["_law_things", "_law_signs", "_law_last_here"]) fun _ _ _ _ _ _ us hl => match us, hl with | [_, _, _], _ => rfl
  have m20 := PySem.W.mg_of X G a20
  have F21 := fun_mk (st := RD.s_law_text) l21 c21 k21
  have b21 := F21.binds (ps := ["_law_things", "_law_signs", "_law_last_here"]) fun _ _ _ _ _ _ us hl => match us, hl with | [_, _, _], _ => rfl
  have m21 := PySem.W.mg_of X G a21
  have F22 := fun_mk (st := RD.s_law_long) l22 c22 k22
  have b22 := F22.binds (ps := ["_law_way", "_law_texts", "_law_trees"]) fun _ _ _ _ _ _ us hl => match us, hl with | [_, _, _], _ => rfl
  have m22 := PySem.W.mg_of X G a22
  have F23 := fun_mk (st := RD.s_law_wrapped) l23 c23 k23
  have b23 := F23.binds (ps := ["_law_wrap", "_law_tree_here"]) fun _ _ _ _ _ _ us hl => match us, hl with | [_, _], _ => rfl
  have m23 := PySem.W.mg_of X G a23
  have F24 := fun_mk (st := RD.s_law_last) l24 c24 k24
  have b24 := F24.binds (ps := ["_law_script", "_law_way"]) fun _ _ _ _ _ _ us hl => match us, hl with | [_, _], _ => rfl
  have m24 := PySem.W.mg_of X G a24
  have F25 := fun_mk (st := RD.s_law) l25 c25 k25
  have b25 := F25.binds (ps := ["_law_script"]) fun _ _ _ _ _ _ us hl => match us, hl with | [_], _ => rfl
  have m25 := PySem.W.mg_of X G a25
  have FM0 := fun_mk (st := RD.s_ahead) lM0 cM0 kM0
  have bM0 := FM0.binds (ps := ["self"]) fun _ _ _ _ _ _ us hl => match us, hl with | [_], _ => rfl
  have FM1 := fun_mk (st := RD.s_take) lM1 cM1 kM1
  have bM1 := FM1.binds (ps := ["self"]) fun _ _ _ _ _ _ us hl => match us, hl with | [_], _ => rfl
  have FM2 := fun_mk (st := RD.s_expect) lM2 cM2 kM2
  have bM2 := FM2.binds (ps := ["self", "wanted"]) fun _ _ _ _ _ _ us hl => match us, hl with | [_, _], _ => rfl
  have FM3 := fun_mk (st := RD.s_read_program) lM3 cM3 kM3
  have bM3 := FM3.binds (ps := ["self"]) fun _ _ _ _ _ _ us hl => match us, hl with | [_], _ => rfl
  have FM4 := fun_mk (st := RD.s_read_function) lM4 cM4 kM4
  have bM4 := FM4.binds (ps := ["self"]) fun _ _ _ _ _ _ us hl => match us, hl with | [_], _ => rfl
  have FM5 := fun_mk (st := RD.s_read_name) lM5 cM5 kM5
  have bM5 := FM5.binds (ps := ["self"]) fun _ _ _ _ _ _ us hl => match us, hl with | [_], _ => rfl
  have FM6 := fun_mk (st := RD.s_read_names) lM6 cM6 kM6
  have bM6 := FM6.binds (ps := ["self"]) fun _ _ _ _ _ _ us hl => match us, hl with | [_], _ => rfl
  have FM7 := fun_mk (st := RD.s_read_terms) lM7 cM7 kM7
  have bM7 := FM7.binds (ps := ["self", "level"]) fun _ _ _ _ _ _ us hl => match us, hl with | [_, _], _ => rfl
  have FM8 := fun_mk (st := RD.s_goes_on) lM8 cM8 kM8
  have bM8 := FM8.binds (ps := ["self", "many"]) fun _ _ _ _ _ _ us hl => match us, hl with | [_, _], _ => rfl
  have FM9 := fun_mk (st := RD.s_read_term) lM9 cM9 kM9
  have bM9 := FM9.binds (ps := ["self", "level"]) fun _ _ _ _ _ _ us hl => match us, hl with | [_, _], _ => rfl
  have FM10 := fun_mk (st := RD.s_read_row) lM10 cM10 kM10
  have bM10 := FM10.binds (ps := ["self", "least", "level"]) fun _ _ _ _ _ _ us hl => match us, hl with | [_, _, _], _ => rfl
  have FM11 := fun_mk (st := RD.s_refuse_side_by_side) lM11 cM11 kM11
  have bM11 := FM11.binds (ps := ["self", "sign"]) fun _ _ _ _ _ _ us hl => match us, hl with | [_, _], _ => rfl
  have FM12 := fun_mk (st := RD.s_read_operand) lM12 cM12 kM12
  have bM12 := FM12.binds (ps := ["self", "level"]) fun _ _ _ _ _ _ us hl => match us, hl with | [_, _], _ => rfl
  have FM13 := fun_mk (st := RD.s_read_tight_or_wide) lM13 cM13 kM13
  have bM13 := FM13.binds (ps := ["self", "level"]) fun _ _ _ _ _ _ us hl => match us, hl with | [_, _], _ => rfl
  have FM14 := fun_mk (st := RD.s_read_if) lM14 cM14 kM14
  have bM14 := FM14.binds (ps := ["self", "level"]) fun _ _ _ _ _ _ us hl => match us, hl with | [_, _], _ => rfl
  have FM15 := fun_mk (st := RD.s_read_let) lM15 cM15 kM15
  have bM15 := FM15.binds (ps := ["self", "level"]) fun _ _ _ _ _ _ us hl => match us, hl with | [_, _], _ => rfl
  have FM16 := fun_mk (st := RD.s_read_fn) lM16 cM16 kM16
  have bM16 := FM16.binds (ps := ["self", "level"]) fun _ _ _ _ _ _ us hl => match us, hl with | [_, _], _ => rfl
  have FM17 := fun_mk (st := RD.s_read_tight) lM17 cM17 kM17
  have bM17 := FM17.binds (ps := ["self", "level"]) fun _ _ _ _ _ _ us hl => match us, hl with | [_, _], _ => rfl
  have FM18 := fun_mk (st := RD.s_read_named) lM18 cM18 kM18
  have bM18 := FM18.binds (ps := ["self", "name", "level"]) fun _ _ _ _ _ _ us hl => match us, hl with | [_, _, _], _ => rfl
  have FI := fun_mk (st := RD.s_init) lI cI kI
  have bI := FI.binds (ps := ["self", "found"]) fun _ _ _ _ _ _ us hl => match us, hl with | [_, _], _ => rfl
  obtain ⟨mf, md, u0, u1, u2, u3, u4, u5, u6, u7, u8, u9, u10, u11, u12, u13, u14, u15, u16, u17, u18, v0, v1, v2, v3, v4, v5, v6, v7, v8, v9, v10, v11, v12, v13, v14, v15, v16, v17, v18⟩ := mfmd fM0 fM1 fM2 fM3 fM4 fM5 fM6 fM7 fM8 fM9 fM10 fM11 fM12 fM13 fM14 fM15 fM16 fM17 fM18 (PySem.W.fnOf "ahead" "Reader.ahead" (defArgs RD.s_ahead) (defBody RD.s_ahead) (defScope RD.s_ahead) .none kVM0 dcM0 pmM0 anM0 cdM0 ctM0) (PySem.W.fnOf "take" "Reader.take" (defArgs RD.s_take) (defBody RD.s_take) (defScope RD.s_take) .none kVM1 dcM1 pmM1 anM1 cdM1 ctM1) (PySem.W.fnOf "expect" "Reader.expect" (defArgs RD.s_expect) (defBody RD.s_expect) (defScope RD.s_expect) .none kVM2 dcM2 pmM2 anM2 cdM2 ctM2) (PySem.W.fnOf "read_program" "Reader.read_program" (defArgs RD.s_read_program) (defBody RD.s_read_program) (defScope RD.s_read_program) .none kVM3 dcM3 pmM3 anM3 cdM3 ctM3) (PySem.W.fnOf "read_function" "Reader.read_function" (defArgs RD.s_read_function) (defBody RD.s_read_function) (defScope RD.s_read_function) .none kVM4 dcM4 pmM4 anM4 cdM4 ctM4) (PySem.W.fnOf "read_name" "Reader.read_name" (defArgs RD.s_read_name) (defBody RD.s_read_name) (defScope RD.s_read_name) .none kVM5 dcM5 pmM5 anM5 cdM5 ctM5) (PySem.W.fnOf "read_names" "Reader.read_names" (defArgs RD.s_read_names) (defBody RD.s_read_names) (defScope RD.s_read_names) .none kVM6 dcM6 pmM6 anM6 cdM6 ctM6) (PySem.W.fnOf "read_terms" "Reader.read_terms" (defArgs RD.s_read_terms) (defBody RD.s_read_terms) (defScope RD.s_read_terms) .none kVM7 dcM7 pmM7 anM7 cdM7 ctM7) (PySem.W.fnOf "goes_on" "Reader.goes_on" (defArgs RD.s_goes_on) (defBody RD.s_goes_on) (defScope RD.s_goes_on) .none kVM8 dcM8 pmM8 anM8 cdM8 ctM8) (PySem.W.fnOf "read_term" "Reader.read_term" (defArgs RD.s_read_term) (defBody RD.s_read_term) (defScope RD.s_read_term) .none kVM9 dcM9 pmM9 anM9 cdM9 ctM9) (PySem.W.fnOf "read_row" "Reader.read_row" (defArgs RD.s_read_row) (defBody RD.s_read_row) (defScope RD.s_read_row) .none kVM10 dcM10 pmM10 anM10 cdM10 ctM10) (PySem.W.fnOf "refuse_side_by_side" "Reader.refuse_side_by_side" (defArgs RD.s_refuse_side_by_side) (defBody RD.s_refuse_side_by_side) (defScope RD.s_refuse_side_by_side) .none kVM11 dcM11 pmM11 anM11 cdM11 ctM11) (PySem.W.fnOf "read_operand" "Reader.read_operand" (defArgs RD.s_read_operand) (defBody RD.s_read_operand) (defScope RD.s_read_operand) .none kVM12 dcM12 pmM12 anM12 cdM12 ctM12) (PySem.W.fnOf "read_tight_or_wide" "Reader.read_tight_or_wide" (defArgs RD.s_read_tight_or_wide) (defBody RD.s_read_tight_or_wide) (defScope RD.s_read_tight_or_wide) .none kVM13 dcM13 pmM13 anM13 cdM13 ctM13) (PySem.W.fnOf "read_if" "Reader.read_if" (defArgs RD.s_read_if) (defBody RD.s_read_if) (defScope RD.s_read_if) .none kVM14 dcM14 pmM14 anM14 cdM14 ctM14) (PySem.W.fnOf "read_let" "Reader.read_let" (defArgs RD.s_read_let) (defBody RD.s_read_let) (defScope RD.s_read_let) .none kVM15 dcM15 pmM15 anM15 cdM15 ctM15) (PySem.W.fnOf "read_fn" "Reader.read_fn" (defArgs RD.s_read_fn) (defBody RD.s_read_fn) (defScope RD.s_read_fn) .none kVM16 dcM16 pmM16 anM16 cdM16 ctM16) (PySem.W.fnOf "read_tight" "Reader.read_tight" (defArgs RD.s_read_tight) (defBody RD.s_read_tight) (defScope RD.s_read_tight) .none kVM17 dcM17 pmM17 anM17 cdM17 ctM17) (PySem.W.fnOf "read_named" "Reader.read_named" (defArgs RD.s_read_named) (defBody RD.s_read_named) (defScope RD.s_read_named) .none kVM18 dcM18 pmM18 anM18 cdM18 ctM18)
  have R0 : Fun K "ahead" "Reader.ahead" RD.s_ahead (mf "ahead") (md "ahead") := by rw [u0, v0]; exact FM0
  have w0 : Meth K C "ahead" (mf "ahead") := by rw [u0]; exact ⟨aM0, jM0, kM0⟩
  have y100 : Binds K (md "ahead") ["self"] [] := by rw [v0]; exact bM0
  have R1 : Fun K "take" "Reader.take" RD.s_take (mf "take") (md "take") := by rw [u1, v1]; exact FM1
  have w1 : Meth K C "take" (mf "take") := by rw [u1]; exact ⟨aM1, jM1, kM1⟩
  have y101 : Binds K (md "take") ["self"] [] := by rw [v1]; exact bM1
  have R2 : Fun K "expect" "Reader.expect" RD.s_expect (mf "expect") (md "expect") := by rw [u2, v2]; exact FM2
  have w2 : Meth K C "expect" (mf "expect") := by rw [u2]; exact ⟨aM2, jM2, kM2⟩
  have y102 : Binds K (md "expect") ["self", "wanted"] [] := by rw [v2]; exact bM2
  have R3 : Fun K "read_program" "Reader.read_program" RD.s_read_program (mf "read_program") (md "read_program") := by rw [u3, v3]; exact FM3
  have w3 : Meth K C "read_program" (mf "read_program") := by rw [u3]; exact ⟨aM3, jM3, kM3⟩
  have y103 : Binds K (md "read_program") ["self"] [] := by rw [v3]; exact bM3
  have R4 : Fun K "read_function" "Reader.read_function" RD.s_read_function (mf "read_function") (md "read_function") := by rw [u4, v4]; exact FM4
  have w4 : Meth K C "read_function" (mf "read_function") := by rw [u4]; exact ⟨aM4, jM4, kM4⟩
  have y104 : Binds K (md "read_function") ["self"] [] := by rw [v4]; exact bM4
  have R5 : Fun K "read_name" "Reader.read_name" RD.s_read_name (mf "read_name") (md "read_name") := by rw [u5, v5]; exact FM5
  have w5 : Meth K C "read_name" (mf "read_name") := by rw [u5]; exact ⟨aM5, jM5, kM5⟩
  have y105 : Binds K (md "read_name") ["self"] [] := by rw [v5]; exact bM5
  have R6 : Fun K "read_names" "Reader.read_names" RD.s_read_names (mf "read_names") (md "read_names") := by rw [u6, v6]; exact FM6
  have w6 : Meth K C "read_names" (mf "read_names") := by rw [u6]; exact ⟨aM6, jM6, kM6⟩
  have y106 : Binds K (md "read_names") ["self"] [] := by rw [v6]; exact bM6
  have R7 : Fun K "read_terms" "Reader.read_terms" RD.s_read_terms (mf "read_terms") (md "read_terms") := by rw [u7, v7]; exact FM7
  have w7 : Meth K C "read_terms" (mf "read_terms") := by rw [u7]; exact ⟨aM7, jM7, kM7⟩
  have y107 : Binds K (md "read_terms") ["self", "level"] [] := by rw [v7]; exact bM7
  have R8 : Fun K "goes_on" "Reader.goes_on" RD.s_goes_on (mf "goes_on") (md "goes_on") := by rw [u8, v8]; exact FM8
  have w8 : Meth K C "goes_on" (mf "goes_on") := by rw [u8]; exact ⟨aM8, jM8, kM8⟩
  have y108 : Binds K (md "goes_on") ["self", "many"] [] := by rw [v8]; exact bM8
  have R9 : Fun K "read_term" "Reader.read_term" RD.s_read_term (mf "read_term") (md "read_term") := by rw [u9, v9]; exact FM9
  have w9 : Meth K C "read_term" (mf "read_term") := by rw [u9]; exact ⟨aM9, jM9, kM9⟩
  have y109 : Binds K (md "read_term") ["self", "level"] [] := by rw [v9]; exact bM9
  have R10 : Fun K "read_row" "Reader.read_row" RD.s_read_row (mf "read_row") (md "read_row") := by rw [u10, v10]; exact FM10
  have w10 : Meth K C "read_row" (mf "read_row") := by rw [u10]; exact ⟨aM10, jM10, kM10⟩
  have y110 : Binds K (md "read_row") ["self", "least", "level"] [] := by rw [v10]; exact bM10
  have R11 : Fun K "refuse_side_by_side" "Reader.refuse_side_by_side" RD.s_refuse_side_by_side (mf "refuse_side_by_side") (md "refuse_side_by_side") := by rw [u11, v11]; exact FM11
  have w11 : Meth K C "refuse_side_by_side" (mf "refuse_side_by_side") := by rw [u11]; exact ⟨aM11, jM11, kM11⟩
  have y111 : Binds K (md "refuse_side_by_side") ["self", "sign"] [] := by rw [v11]; exact bM11
  have R12 : Fun K "read_operand" "Reader.read_operand" RD.s_read_operand (mf "read_operand") (md "read_operand") := by rw [u12, v12]; exact FM12
  have w12 : Meth K C "read_operand" (mf "read_operand") := by rw [u12]; exact ⟨aM12, jM12, kM12⟩
  have y112 : Binds K (md "read_operand") ["self", "level"] [] := by rw [v12]; exact bM12
  have R13 : Fun K "read_tight_or_wide" "Reader.read_tight_or_wide" RD.s_read_tight_or_wide (mf "read_tight_or_wide") (md "read_tight_or_wide") := by rw [u13, v13]; exact FM13
  have w13 : Meth K C "read_tight_or_wide" (mf "read_tight_or_wide") := by rw [u13]; exact ⟨aM13, jM13, kM13⟩
  have y113 : Binds K (md "read_tight_or_wide") ["self", "level"] [] := by rw [v13]; exact bM13
  have R14 : Fun K "read_if" "Reader.read_if" RD.s_read_if (mf "read_if") (md "read_if") := by rw [u14, v14]; exact FM14
  have w14 : Meth K C "read_if" (mf "read_if") := by rw [u14]; exact ⟨aM14, jM14, kM14⟩
  have y114 : Binds K (md "read_if") ["self", "level"] [] := by rw [v14]; exact bM14
  have R15 : Fun K "read_let" "Reader.read_let" RD.s_read_let (mf "read_let") (md "read_let") := by rw [u15, v15]; exact FM15
  have w15 : Meth K C "read_let" (mf "read_let") := by rw [u15]; exact ⟨aM15, jM15, kM15⟩
  have y115 : Binds K (md "read_let") ["self", "level"] [] := by rw [v15]; exact bM15
  have R16 : Fun K "read_fn" "Reader.read_fn" RD.s_read_fn (mf "read_fn") (md "read_fn") := by rw [u16, v16]; exact FM16
  have w16 : Meth K C "read_fn" (mf "read_fn") := by rw [u16]; exact ⟨aM16, jM16, kM16⟩
  have y116 : Binds K (md "read_fn") ["self", "level"] [] := by rw [v16]; exact bM16
  have R17 : Fun K "read_tight" "Reader.read_tight" RD.s_read_tight (mf "read_tight") (md "read_tight") := by rw [u17, v17]; exact FM17
  have w17 : Meth K C "read_tight" (mf "read_tight") := by rw [u17]; exact ⟨aM17, jM17, kM17⟩
  have y117 : Binds K (md "read_tight") ["self", "level"] [] := by rw [v17]; exact bM17
  have R18 : Fun K "read_named" "Reader.read_named" RD.s_read_named (mf "read_named") (md "read_named") := by rw [u18, v18]; exact FM18
  have w18 : Meth K C "read_named" (mf "read_named") := by rw [u18]; exact ⟨aM18, jM18, kM18⟩
  have y118 : Binds K (md "read_named") ["self", "name", "level"] [] := by rw [v18]; exact bM18
  have RC : RCls K C mf md := { cl := ⟨pg, hd, po, sa⟩, nf := nf, np := np, m_ahead := w0, m_take := w1, m_expect := w2, m_read_program := w3, m_read_function := w4, m_read_name := w5, m_read_names := w6, m_read_terms := w7, m_goes_on := w8, m_read_term := w9, m_read_row := w10, m_refuse_side_by_side := w11, m_read_operand := w12, m_read_tight_or_wide := w13, m_read_if := w14, m_read_let := w15, m_read_fn := w16, m_read_tight := w17, m_read_named := w18, b_ahead := y100, b_take := y101, b_expect := y102, b_read_program := y103, b_read_function := y104, b_read_name := y105, b_read_names := y106, b_read_terms := y107, b_goes_on := y108, b_read_term := y109, b_read_row := y110, b_refuse_side_by_side := y111, b_read_operand := y112, b_read_tight_or_wide := y113, b_read_if := y114, b_read_let := y115, b_read_fn := y116, b_read_tight := y117, b_read_named := y118 }
  have RF : RFun K mf md := { ahead := R0, take := R1, expect := R2, read_name := R5, goes_on := R8, read_names := R6, read_terms := R7, read_term := R9, read_row := R10, refuse_side_by_side := R11, read_operand := R12, read_tight_or_wide := R13, read_if := R14, read_let := R15, read_fn := R16, read_tight := R17, read_named := R18 }
  refine ⟨PySem.W.fnOf "law" "law" (defArgs s_law) (defBody s_law) (defScope s_law) .none kV25 dc25 pm25 an25 cd25 ct25, fun s v => .of_eq rfl, fun base _ _ => ?_⟩
  have G2 := K10.ok_in_long_word (P := l.prog) (w := w) (mg := mg) (base := base) F2 m_LETTERS m_FIGURES
  have G5 := K10.ok_is_told (P := l.prog) (w := w) (mg := mg) (base := base) F5 TW m_TOLD_WORDS
  have G4 := K10.ok_is_number (P := l.prog) (w := w) (mg := mg) (base := base) F4 B10 m_LONGEST_NUMBER m_FIGURES
  have G6 := K10.ok_is_name (P := l.prog) (w := w) (mg := mg) (base := base) F6 B10 m_LONGEST_NAME m_LETTERS G2 b2 k2 m2 G5 b5 k5 m5
  have G3 := K10.ok_long_word_from (P := l.prog) (w := w) (mg := mg) (base := base) F3 B10 X_BadText G2 b2 k2 m2 G5 b5 k5 m5 G4 b4 k4 m4 G6 b6 k6 m6
  have G1 := K10.ok_word_from (P := l.prog) (w := w) (mg := mg) (base := base) F1 B10 X_BadText m_MARKS G2 b2 k2 m2 G3 b3 k3 m3
  have G0 := K10.ok_words (P := l.prog) (w := w) (mg := mg) (base := base) F0 B10 X_BadText m_LONGEST_TEXT m_GAPS G1 b1 k1 m1
  have G7 := K15.ok_parts_of (P := l.prog) (w := w) (mg := mg) (base := base) F7 B15 TD_PARTS_FROM m_PARTS_FROM
  have G8 := K15.ok_parts_of_all (P := l.prog) (w := w) (mg := mg) (base := base) F8 G7 b7 k7 m7
  have G9 := K15.ok_depth_of (P := l.prog) (w := w) (mg := mg) (base := base) F9 G8 b8 k8 m8
  have G10 := K15.ok_size_of (P := l.prog) (w := w) (mg := mg) (base := base) F10 B15 G8 b8 k8 m8
  have H_ahead := ok_ahead (P := l.prog) (w := w) (mg := mg) (base := base) R0 B10 RC
  have H_take := ok_take (P := l.prog) (w := w) (mg := mg) (base := base) R1 RC H_ahead
  have H_expect := ok_expect (P := l.prog) (w := w) (mg := mg) (base := base) R2 RC X_BadText H_take
  have H_read_name := ok_read_name (P := l.prog) (w := w) (mg := mg) (base := base) R5 RC X_BadText H_take G6 b6 k6 m6
  have H_goes_on := ok_goes_on (P := l.prog) (w := w) (mg := mg) (base := base) R8 RC X_BadText m_MOST_LISTED H_ahead H_take H_expect
  have H_read_names := ok_read_names (P := l.prog) (w := w) (mg := mg) (base := base) R6 B RC H_expect H_goes_on H_read_name
  have G14 := ok_strength_behind (P := l.prog) (w := w) (mg := mg) (base := base) F14 m_STRENGTHS TD_STRENGTHS
  have H_refuse_side_by_side := ok_refuse_side_by_side (P := l.prog) (w := w) (mg := mg) (base := base) R11 RC X_BadText m_COMPARING CM H_ahead
  have RW := ok_rows (P := l.prog) (w := w) (mg := mg) (base := base) RF B RC X_BadText m_LEAST_STRENGTH m_DEEPEST m_ONE_WORDS OW m_STRENGTHS TD_STRENGTHS G14 b14 k14 m14 G6 b6 k6 m6 G4 b4 k4 m4 H_ahead H_take H_expect H_read_name H_goes_on H_refuse_side_by_side
  have H_read_term := ok_read_term (P := l.prog) (w := w) (mg := mg) (base := base) R9 RC m_LEAST_STRENGTH (RW 32).1
  have H_read_function := ok_read_function (P := l.prog) (w := w) (mg := mg) (base := base) R4 RC H_expect H_read_name H_read_names H_read_term
  have H_read_program := ok_read_program (P := l.prog) (w := w) (mg := mg) (base := base) R3 B RC X_BadText m_MOST_FUNCTIONS H_ahead H_read_function
  have H_init := ok_init (P := l.prog) (w := w) (mg := mg) (base := base) FI RC
  have G12 := ok_refuse_many_brackets (P := l.prog) (w := w) (mg := mg) (base := base) F12 X_BadText m_MOST_BRACKETS
  have G13 := ok_refuse_great (P := l.prog) (w := w) (mg := mg) (base := base) F13 X_BadText m_DEEPEST m_MOST_TERMS G9 b9 k9 m9 G10 b10 k10 m10
  have G11 := ok_read (P := l.prog) (w := w) (mg := mg) (base := base) F11 RC ⟨mk, aI, jI, kc⟩ (PySem.W.mg_of X G aC) H_init bI G0 b0 k0 m0 G12 b12 k12 m12 G13 b13 k13 m13 H_read_program
  have G15 := ok_law_cell_at (P := l.prog) (w := w) (mg := mg) (base := base) F15 B
  have G16 := ok_law_row (P := l.prog) (w := w) (mg := mg) (base := base) F16 B
  have G17 := ok_law_applied (P := l.prog) (w := w) (mg := mg) (base := base) F17 B
  have G18 := ok_law_from_left (P := l.prog) (w := w) (mg := mg) (base := base) F18 B
  have G19 := ok_law_from_right (P := l.prog) (w := w) (mg := mg) (base := base) F19 B
  have G20 := ok_law_tree (P := l.prog) (w := w) (mg := mg) (base := base) F20 B G17 b17 k17 m17 G18 b18 k18 m18 G19 b19 k19 m19
  have G21 := ok_law_text (P := l.prog) (w := w) (mg := mg) (base := base) F21 B
  have G22 := ok_law_long (P := l.prog) (w := w) (mg := mg) (base := base) F22 B
  have G23 := ok_law_wrapped (P := l.prog) (w := w) (mg := mg) (base := base) F23 B
  have G24 := ok_law_last (P := l.prog) (w := w) (mg := mg) (base := base) F24 B G15 b15 k15 m15 G16 b16 k16 m16 G21 b21 k21 m21 G20 b20 k20 m20 G23 b23 k23 m23 G22 b22 k22 m22
  exact ok_law F25 B X_BadText TK G15 b15 k15 m15 G16 b16 k16 m16 G21 b21 k21 m21 G20 b20 k20 m20 G24 b24 k24 m24 G11 b11 k11 m11
theorem walk {l : PySem.W.OpenLaw} {q : Program} {loose : List Str} {XP : (Str → Option Value) → Heap → Prop} {YP : World → Heap → Prop} {d : DefRec} {K : Params → PySem.W.Frag} (hn : l.most = some 63) (hdf : d.params.defaults = [])
    (hY : ∀ (w : World) (h : Heap), YP w h → (K w.params).In h)
    (F : ∀ (w : World) (mg : Str → Option Value) (fa : Addr) (h : Heap), (K w.params).In h → h.Ns mainGlobals mg → mg d.name = some (.ref fa) →
      ∃ fd : FuncData, (∀ (s : Shared) (u : Value), BindsTo s fd ⟨[u], []⟩ [("_law_script", u)]) ∧ ∀ base : Heap, (K w.params).In base → base.Ns mainGlobals mg → FnOk l.prog w (K w.params) mg base CX0 236 fa fd ["_law_script"] (spLaw (K w.params))) :
    PySem.W.WalkO q loose XP YP l.row.toRowW d [] (fun f vs => PySem.call f vs) :=
  L2.walk_of (n := 63) (k := 236) (x := "_law_script") (CX := fun _ => CX0) (sp := fun w => spLaw (K w.params)) hn (by decide) hdf ⟨rfl, by decide, by decide⟩ hY F (fun _ _ a ns hl _ hS => ⟨a, ns, rfl, hS, hl, fun _ => rfl⟩) fun _ _ _ _ _ z => z
end RD
open PySem PySem.W PyProof.Rows
set_option maxRecDepth 100000 in
set_option maxHeartbeats 0 in
theorem PySem.Challenge.cw_speakmill_k12_strengths_holds : PySem.Challenge.rw_speakmill_k12_strengths.Holds := by
  w_on; o_law; k_head; (case hw => w_witness2)
  k_fill
  refine RD.walk (l := PySem.Challenge.rw_speakmill_k12_strengths) rfl rfl (fun w h Y => PySem.W.kIn_of Y) ?F
  case F =>
    intro w mg fa h KX G hmg
    refine' RD.all_mk KX G hmg ?a0 ?l0 ?c0 ?k0 ?a1 ?l1 ?c1 ?k1 ?a2 ?l2 ?c2 ?k2 ?a3 ?l3 ?c3 ?k3 ?a4 ?l4 ?c4 ?k4 ?a5 ?l5 ?c5 ?k5 ?a6 ?l6 ?c6 ?k6 ?a7 ?l7 ?c7 ?k7 ?a8 ?l8 ?c8 ?k8 ?a9 ?l9 ?c9 ?k9 ?a10 ?l10 ?c10 ?k10 ?a11 ?l11 ?c11 ?k11 ?a12 ?l12 ?c12 ?k12 ?a13 ?l13 ?c13 ?k13 ?a14 ?l14 ?c14 ?k14 ?a15 ?l15 ?c15 ?k15 ?a16 ?l16 ?c16 ?k16 ?a17 ?l17 ?c17 ?k17 ?a18 ?l18 ?c18 ?k18 ?a19 ?l19 ?c19 ?k19 ?a20 ?l20 ?c20 ?k20 ?a21 ?l21 ?c21 ?k21 ?a22 ?l22 ?c22 ?k22 ?a23 ?l23 ?c23 ?k23 ?a24 ?l24 ?c24 ?k24 ?a25 ?l25 ?c25 ?k25 ?aC ?aM0 ?lM0 ?cM0 ?kM0 ?jM0 ?aM1 ?lM1 ?cM1 ?kM1 ?jM1 ?aM2 ?lM2 ?cM2 ?kM2 ?jM2 ?aM3 ?lM3 ?cM3 ?kM3 ?jM3 ?aM4 ?lM4 ?cM4 ?kM4 ?jM4 ?aM5 ?lM5 ?cM5 ?kM5 ?jM5 ?aM6 ?lM6 ?cM6 ?kM6 ?jM6 ?aM7 ?lM7 ?cM7 ?kM7 ?jM7 ?aM8 ?lM8 ?cM8 ?kM8 ?jM8 ?aM9 ?lM9 ?cM9 ?kM9 ?jM9 ?aM10 ?lM10 ?cM10 ?kM10 ?jM10 ?aM11 ?lM11 ?cM11 ?kM11 ?jM11 ?aM12 ?lM12 ?cM12 ?kM12 ?jM12 ?aM13 ?lM13 ?cM13 ?kM13 ?jM13 ?aM14 ?lM14 ?cM14 ?kM14 ?jM14 ?aM15 ?lM15 ?cM15 ?kM15 ?jM15 ?aM16 ?lM16 ?cM16 ?kM16 ?jM16 ?aM17 ?lM17 ?cM17 ?kM17 ?jM17 ?aM18 ?lM18 ?cM18 ?kM18 ?jM18 ?aI ?lI ?cI ?kI ?jI ?pg ?hd ?po ?sa ?mk ?kc ?nf ?np ?e_LONGEST_TEXT ?e_LONGEST_NUMBER ?e_LONGEST_NAME ?e_MOST_FUNCTIONS ?e_MOST_LISTED ?e_DEEPEST ?e_MOST_TERMS ?e_MOST_BRACKETS ?e_LEAST_STRENGTH ?e_FIGURES ?e_LETTERS ?e_GAPS ?e_MARKS ?aW_TOLD_WORDS ?lW_TOLD_WORDS ?zW_TOLD_WORDS ?vW_TOLD_WORDS ?aW_COMPARING ?lW_COMPARING ?zW_COMPARING ?vW_COMPARING ?aW_ONE_WORDS ?lW_ONE_WORDS ?zW_ONE_WORDS ?vW_ONE_WORDS ?aD_PARTS_FROM ?lD_PARTS_FROM ?kD_PARTS_FROM ?pD_PARTS_FROM ?oD_PARTS_FROM ?aD_STRENGTHS ?lD_STRENGTHS ?kD_STRENGTHS ?pD_STRENGTHS ?oD_STRENGTHS ?g_MillError ?q_MillError ?g_BadText ?q_BadText ?z_len ?z_isinstance ?z_range ?z_list ?z_str ?z_all ?z_ValueError ?z_tuple ?z_int ?z_any ?z_sum ?z_bool ?z_max ?z_min
    (case a0 => k_is)
    (case l0 => k_is)
    (case c0 => k_is)
    (case k0 => k_is)
    (case a1 => k_is)
    (case l1 => k_is)
    (case c1 => k_is)
    (case k1 => k_is)
    (case a2 => k_is)
    (case l2 => k_is)
    (case c2 => k_is)
    (case k2 => k_is)
    (case a3 => k_is)
    (case l3 => k_is)
    (case c3 => k_is)
    (case k3 => k_is)
    (case a4 => k_is)
    (case l4 => k_is)
    (case c4 => k_is)
    (case k4 => k_is)
    (case a5 => k_is)
    (case l5 => k_is)
    (case c5 => k_is)
    (case k5 => k_is)
    (case a6 => k_is)
    (case l6 => k_is)
    (case c6 => k_is)
    (case k6 => k_is)
    (case a7 => k_is)
    (case l7 => k_is)
    (case c7 => k_is)
    (case k7 => k_is)
    (case a8 => k_is)
    (case l8 => k_is)
    (case c8 => k_is)
    (case k8 => k_is)
    (case a9 => k_is)
    (case l9 => k_is)
    (case c9 => k_is)
    (case k9 => k_is)
    (case a10 => k_is)
    (case l10 => k_is)
    (case c10 => k_is)
    (case k10 => k_is)
    (case a11 => k_is)
    (case l11 => k_is)
    (case c11 => k_is)
    (case k11 => k_is)
    (case a12 => k_is)
    (case l12 => k_is)
    (case c12 => k_is)
    (case k12 => k_is)
    (case a13 => k_is)
    (case l13 => k_is)
    (case c13 => k_is)
    (case k13 => k_is)
    (case a14 => k_is)
    (case l14 => k_is)
    (case c14 => k_is)
    (case k14 => k_is)
    (case a15 => k_is)
    (case l15 => k_is)
    (case c15 => k_is)
    (case k15 => k_is)
    (case a16 => k_is)
    (case l16 => k_is)
    (case c16 => k_is)
    (case k16 => k_is)
    (case a17 => k_is)
    (case l17 => k_is)
    (case c17 => k_is)
    (case k17 => k_is)
    (case a18 => k_is)
    (case l18 => k_is)
    (case c18 => k_is)
    (case k18 => k_is)
    (case a19 => k_is)
    (case l19 => k_is)
    (case c19 => k_is)
    (case k19 => k_is)
    (case a20 => k_is)
    (case l20 => k_is)
    (case c20 => k_is)
    (case k20 => k_is)
    (case a21 => k_is)
    (case l21 => k_is)
    (case c21 => k_is)
    (case k21 => k_is)
    (case a22 => k_is)
    (case l22 => k_is)
    (case c22 => k_is)
    (case k22 => k_is)
    (case a23 => k_is)
    (case l23 => k_is)
    (case c23 => k_is)
    (case k23 => k_is)
    (case a24 => k_is)
    (case l24 => k_is)
    (case c24 => k_is)
    (case k24 => k_is)
    (case a25 => k_is)
    (case l25 => k_is)
    (case c25 => k_is)
    (case k25 => k_is)
    (case aC => k_is)
    (case aM0 => k_is)
    (case lM0 => k_is)
    (case cM0 => k_is)
    (case kM0 => k_is)
    (case jM0 => k_is)
    (case aM1 => k_is)
    (case lM1 => k_is)
    (case cM1 => k_is)
    (case kM1 => k_is)
    (case jM1 => k_is)
    (case aM2 => k_is)
    (case lM2 => k_is)
    (case cM2 => k_is)
    (case kM2 => k_is)
    (case jM2 => k_is)
    (case aM3 => k_is)
    (case lM3 => k_is)
    (case cM3 => k_is)
    (case kM3 => k_is)
    (case jM3 => k_is)
    (case aM4 => k_is)
    (case lM4 => k_is)
    (case cM4 => k_is)
    (case kM4 => k_is)
    (case jM4 => k_is)
    (case aM5 => k_is)
    (case lM5 => k_is)
    (case cM5 => k_is)
    (case kM5 => k_is)
    (case jM5 => k_is)
    (case aM6 => k_is)
    (case lM6 => k_is)
    (case cM6 => k_is)
    (case kM6 => k_is)
    (case jM6 => k_is)
    (case aM7 => k_is)
    (case lM7 => k_is)
    (case cM7 => k_is)
    (case kM7 => k_is)
    (case jM7 => k_is)
    (case aM8 => k_is)
    (case lM8 => k_is)
    (case cM8 => k_is)
    (case kM8 => k_is)
    (case jM8 => k_is)
    (case aM9 => k_is)
    (case lM9 => k_is)
    (case cM9 => k_is)
    (case kM9 => k_is)
    (case jM9 => k_is)
    (case aM10 => k_is)
    (case lM10 => k_is)
    (case cM10 => k_is)
    (case kM10 => k_is)
    (case jM10 => k_is)
    (case aM11 => k_is)
    (case lM11 => k_is)
    (case cM11 => k_is)
    (case kM11 => k_is)
    (case jM11 => k_is)
    (case aM12 => k_is)
    (case lM12 => k_is)
    (case cM12 => k_is)
    (case kM12 => k_is)
    (case jM12 => k_is)
    (case aM13 => k_is)
    (case lM13 => k_is)
    (case cM13 => k_is)
    (case kM13 => k_is)
    (case jM13 => k_is)
    (case aM14 => k_is)
    (case lM14 => k_is)
    (case cM14 => k_is)
    (case kM14 => k_is)
    (case jM14 => k_is)
    (case aM15 => k_is)
    (case lM15 => k_is)
    (case cM15 => k_is)
    (case kM15 => k_is)
    (case jM15 => k_is)
    (case aM16 => k_is)
    (case lM16 => k_is)
    (case cM16 => k_is)
    (case kM16 => k_is)
    (case jM16 => k_is)
    (case aM17 => k_is)
    (case lM17 => k_is)
    (case cM17 => k_is)
    (case kM17 => k_is)
    (case jM17 => k_is)
    (case aM18 => k_is)
    (case lM18 => k_is)
    (case cM18 => k_is)
    (case kM18 => k_is)
    (case jM18 => k_is)
    (case aI => k_is)
    (case lI => k_is)
    (case cI => k_is)
    (case kI => k_is)
    (case jI => k_is)
    (case pg => k_is)
    (case hd => k_is)
    (case po => k_is)
    (case sa => k_is)
    (case mk => k_is)
    (case kc => k_is)
    (case nf => k_is)
    (case np => k_is)
    (case e_LONGEST_TEXT => k_is)
    (case e_LONGEST_NUMBER => k_is)
    (case e_LONGEST_NAME => k_is)
    (case e_MOST_FUNCTIONS => k_is)
    (case e_MOST_LISTED => k_is)
    (case e_DEEPEST => k_is)
    (case e_MOST_TERMS => k_is)
    (case e_MOST_BRACKETS => k_is)
    (case e_LEAST_STRENGTH => k_is)
    (case e_FIGURES => k_is)
    (case e_LETTERS => k_is)
    (case e_GAPS => k_is)
    (case e_MARKS => k_is)
    (case aW_TOLD_WORDS => k_is)
    (case lW_TOLD_WORDS => k_is)
    (case zW_TOLD_WORDS => decide)
    (case vW_TOLD_WORDS => repeat (first | exact .nil | refine .cons ⟨_, rfl⟩ ?_))
    (case aW_COMPARING => k_is)
    (case lW_COMPARING => k_is)
    (case zW_COMPARING => decide)
    (case vW_COMPARING => repeat (first | exact .nil | refine .cons ⟨_, rfl⟩ ?_))
    (case aW_ONE_WORDS => k_is)
    (case lW_ONE_WORDS => k_is)
    (case zW_ONE_WORDS => decide)
    (case vW_ONE_WORDS => repeat (first | exact .nil | refine .cons ⟨_, rfl⟩ ?_))
    (case aD_PARTS_FROM => k_is)
    (case lD_PARTS_FROM => k_is)
    (case kD_PARTS_FROM => k_keys)
    (case pD_PARTS_FROM => repeat (first | exact .nil | refine .cons ⟨⟨_, rfl⟩, ⟨_, rfl⟩⟩ ?_))
    (case oD_PARTS_FROM => decide)
    (case aD_STRENGTHS => k_is)
    (case lD_STRENGTHS => k_is)
    (case kD_STRENGTHS => k_keys)
    (case pD_STRENGTHS => repeat (first | exact .nil | refine .cons ⟨⟨_, rfl⟩, ⟨_, rfl⟩⟩ ?_))
    (case oD_STRENGTHS => decide)
    (case g_MillError => k_is)
    (case q_MillError => k_exc)
    (case g_BadText => k_is)
    (case q_BadText => k_exc)
    (case z_len => k_is)
    (case z_isinstance => k_is)
    (case z_range => k_is)
    (case z_list => k_is)
    (case z_str => k_is)
    (case z_all => k_is)
    (case z_ValueError => k_is)
    (case z_tuple => k_is)
    (case z_int => k_is)
    (case z_any => k_is)
    (case z_sum => k_is)
    (case z_bool => k_is)
    (case z_max => k_is)
    (case z_min => k_is)
