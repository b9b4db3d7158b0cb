import PyProof.Rows.All
import Wide.All
import OpenK.AllK
import Wide.FinOn
import Lean
import PyProof.EqAt
import PyProof.EqKinds
import PyProof.TupleCall
import PySem.Challenge.RW_speakmill_k62_swept
set_option Elab.async false
set_option linter.all false
set_option maxRecDepth 100000
namespace L2
open PySem PySem.Spec PyProof.Rows
abbrev Key := Sum Int Str
def keyIs : Key → Value → Bool
  | .inl k, v => Value.isInt k v
  | .inr x, v => Value.isStrOf x v
def keyH (w : World) : Key → Int
  | .inl k => hashInt k
  | .inr x => hashStr w x
theorem keyIs_shape : ∀ {k : Key} {v : Value}, keyIs k v = true → (∃ i t, k = Sum.inl i ∧ v = Value.int i t) ∨ (∃ x t, k = Sum.inr x ∧ v = Value.str x t)
  | .inl i, v, h => by
    obtain ⟨t, e⟩ := Value.isInt_shape (k := i) (v := v) h
    exact .inl ⟨i, t, rfl, e⟩
  | .inr x, v, h => by
    obtain ⟨t, e⟩ := Value.isStrOf_shape (x := x) (v := v) h
    exact .inr ⟨x, t, rfl, e⟩
theorem keyIs_int (i : Int) (t : Tok) : keyIs (.inl i) (.int i t) = true := by simp [keyIs, Value.isInt]
theorem keyIs_str (x : Str) (t : Tok) : keyIs (.inr x) (.str x t) = true := by simp [keyIs, Value.isStrOf]
theorem key_ll (a b : Int) : decide ((Sum.inl a : Key) = Sum.inl b) = (a == b) := by
  by_cases e : a = b
  · subst e; simp
  · have h : ¬ (Sum.inl a : Key) = Sum.inl b := fun q => e (Sum.inl.inj q)
    rw [decide_eq_false h]
    exact (beq_eq_false_iff_ne.mpr e).symm
theorem key_rr (a b : Str) : decide ((Sum.inr a : Key) = Sum.inr b) = decide (a = b) := by
  by_cases e : a = b
  · subst e; simp
  · have h : ¬ (Sum.inr a : Key) = Sum.inr b := fun q => e (Sum.inr.inj q)
    rw [decide_eq_false h, decide_eq_false e]
theorem key_lr (a : Int) (b : Str) : decide ((Sum.inl a : Key) = Sum.inr b) = false := decide_eq_false (fun q => nomatch q)
theorem key_rl (a : Str) (b : Int) : decide ((Sum.inr a : Key) = Sum.inl b) = false := decide_eq_false (fun q => nomatch q)
def mixKind (prog : Program) (w : World) : PySem.KeyKind prog w Key where
  is := keyIs
  hash := keyH w
  inj := fun v a b ha hb => by
    rcases keyIs_shape ha with ⟨i, t, rfl, rfl⟩ | ⟨x, t, rfl, rfl⟩
    · rcases keyIs_shape hb with ⟨j, u, rfl, e⟩ | ⟨y, u, rfl, e⟩
      · injection e with e1 _; rw [e1]
      · exact nomatch e
    · rcases keyIs_shape hb with ⟨j, u, rfl, e⟩ | ⟨y, u, rfl, e⟩
      · exact nomatch e
      · injection e with e1 _; rw [e1]
  byValue := fun k v h => by
    rcases keyIs_shape h with ⟨i, t, rfl, rfl⟩ | ⟨x, t, rfl, rfl⟩ <;> rfl
  pyHash := fun hv h => by
    rcases keyIs_shape hv with ⟨i, t, rfl, rfl⟩ | ⟨x, t, rfl, rfl⟩
    · exact wpAny_pyHash_int h
    · exact wpAny_pyHash_str h
  eqBool := fun hu hv h => by
    rcases keyIs_shape hu with ⟨i, t, rfl, rfl⟩ | ⟨x, t, rfl, rfl⟩
    · rcases keyIs_shape hv with ⟨j, u, rfl, rfl⟩ | ⟨y, u, rfl, rfl⟩
      · rw [key_ll] at h; exact wpAny_eqBool_int h
      · rw [key_lr] at h; exact SeqAt.EqAt.int_str i t y u _ _ _ _ h
    · rcases keyIs_shape hv with ⟨j, u, rfl, rfl⟩ | ⟨y, u, rfl, rfl⟩
      · rw [key_rl] at h; exact SeqAt.EqAt.str_int x t j u _ _ _ _ h
      · rw [key_rr] at h; exact wpAny_eqBool_str h
  «strs» := fun k x t v h => by
    rcases keyIs_shape h with ⟨i, u, rfl, e⟩ | ⟨y, u, rfl, e⟩
    · exact nomatch e
    · injection e with e1 _
      subst e1
      cases v <;> rfl
theorem mixKind_int (prog : Program) (w : World) (i : Int) (t : Tok) : (mixKind prog w).is (.inl i) (.int i t) = true := keyIs_int i t
theorem mixKind_str (prog : Program) (w : World) (x : Str) (t : Tok) : (mixKind prog w).is (.inr x) (.str x t) = true := keyIs_str x t
end L2
namespace L2
open PySem PySem.Spec PyProof.Rows
inductive V where
  | non | bl (b : Bool) | int (i : Int) | str (x : Str) | byt (b : Array UInt8) | flt (b : UInt64) | ref (a : Addr) | ty (n : String)
  deriving DecidableEq
def RelV : V → Value → Prop
  | .non, u => u = Value.none
  | .bl b, u => u = Value.bool b
  | .int i, u => ∃ t, u = Value.int i t
  | .str x, u => ∃ t, u = Value.str x t
  | .byt b, u => ∃ t, u = Value.bytes b t
  | .flt b, u => ∃ t, u = Value.float b t
  | .ref a, u => u = Value.ref a
  | .ty n, u => u = Value.type n
abbrev Vals : List V → List Value → Prop := Paired RelV
theorem Vals.length {xs : List V} {us : List Value} (r : Vals xs us) : xs.length = us.length := Paired.length r
theorem Vals.get : ∀ {xs : List V} {us : List Value} {i : Nat} {x : V}, Vals xs us → xs[i]? = some x → ∃ u, us[i]? = some u ∧ RelV x u
  | _, _, _, _, .nil, e => by simp at e
  | _, _, 0, _, .cons r _, e => by simp at e; subst e; exact ⟨_, rfl, r⟩
  | _, _, i + 1, x, .cons _ t, e => by
    obtain ⟨u, h1, h2⟩ := Vals.get (i := i) (x := x) t (by simpa using e)
    exact ⟨u, by simpa using h1, h2⟩
theorem Vals.set {x : V} {u : Value} (r : RelV x u) : ∀ {xs : List V} {us : List Value} (i : Nat), Vals xs us → Vals (xs.set i x) (us.set i u)
  | _, _, _, .nil => .nil
  | _, _, 0, .cons _ t => .cons r t
  | _, _, i + 1, .cons q t => .cons q (Vals.set r i t)
theorem Vals.append : ∀ {xs ys : List V} {us ws : List Value}, Vals xs us → Vals ys ws → Vals (xs ++ ys) (us ++ ws)
  | _, _, _, _, .nil, s => s
  | _, _, _, _, .cons r t, s => .cons r (Vals.append t s)
theorem Vals.take : ∀ {xs : List V} {us : List Value} (n : Nat), Vals xs us → Vals (xs.take n) (us.take n)
  | _, _, 0, _ => .nil
  | _, _, _ + 1, .nil => .nil
  | _, _, n + 1, .cons r t => .cons r (Vals.take n t)
theorem Vals.drop : ∀ {xs : List V} {us : List Value} (n : Nat), Vals xs us → Vals (xs.drop n) (us.drop n)
  | _, _, 0, r => r
  | _, _, _ + 1, .nil => .nil
  | _, _, n + 1, .cons _ t => Vals.drop n t
def RelO : Option V → Option Value → Prop
  | some v, some u => RelV v u
  | none, none => True
  | _, _ => False
def KV {κ : Type} : List (κ × V) → List (κ × Value) → Prop := Paired fun (p : κ × V) (q : κ × Value) => p.1 = q.1 ∧ RelV p.2 q.2
def kV : Key → V
  | .inl i => .int i
  | .inr x => .str x
inductive HO where
  | lst (xs : List V)
  | tup (xs : List V)
  | dK (kvs : List (Key × V)) | dT (kvs : List (List Key × V))
  | set (S : Int → Bool) (n : Nat)
  | ins (C dx : Addr) (fs : List (Str × V))
  | own (x : Addr)
  | xd (fs : List (Str × V))
  | met (f x : Addr)
  | rng (lo hi : Int)
  | frz (o : Obj) (u : HO)
  | tbl (ps : Array Value)
  | ext (φ : Heap → Prop)
abbrev Hp := Addr → Option HO
def upd (H : Hp) (a : Addr) (o : HO) : Hp := fun b => if b = a then some o else H b
theorem upd_same {H : Hp} {a : Addr} {o : HO} : upd H a o a = some o := by unfold upd; rw [if_pos rfl]
theorem upd_ne {H : Hp} {a b : Addr} {o : HO} (h : b ≠ a) : upd H a o b = H b := by unfold upd; rw [if_neg h]
theorem ne_of {H : Hp} {a b : Addr} {o u : HO} (h : H a = some o) (h' : H b = some u) (d : o ≠ u) : a ≠ b := by
  intro e; subst e; rw [h] at h'; exact d (Option.some.inj h')
theorem ne_of_none {H : Hp} {a b : Addr} {o : HO} (h : H a = some o) (h' : H b = none) : a ≠ b := by
  intro e; subst e; rw [h] at h'; cases h'
section
variable (P : Program) (w : World)
def ObjOk (H : Hp) (h : Heap) (a : Addr) : HO → Prop
  | .lst xs => xs.length ≤ sizeLine ∧ ∃ (its : List Value) (n : Nat), Vals xs its ∧ h.get? a = some { cls := .type "list", data := .seq its.toArray n }
  | .tup xs => xs.length ≤ sizeLine ∧ ∃ its : List Value, Vals xs its ∧ IsTup h a its.toArray
  | .dK kvs => kvs.length ≤ sizeLine ∧ (a == sysModules) = false ∧ ∃ vs, KV kvs vs ∧ h.DictOf (mixKind P w) a vs
  | .dT kvs => kvs.length ≤ sizeLine ∧ (a == sysModules) = false ∧ ∃ xs : List (List Key × Addr × Value),
      Paired (fun (p : List Key × V) (q : List Key × Addr × Value) => p.1 = q.1 ∧ H q.2.1 = some (.tup (p.1.map kV)) ∧ RelV p.2 q.2.2) kvs xs ∧
      ∃ o es ep, h.get? a = some o ∧ o.ExactDict ∧ o.data = .dict es ep ∧ es.toList = xs.map (entryOfKey (tupleKind (mixKind P w))) ∧ (xs.map (·.1)).Nodup
  | .set S n => h.SetOf (intKind P w) a S n
  | .ins C dx fs => H dx = some (.own a) ∧ fs.length ≤ 1000 ∧ dx ≠ a ∧ h.get? a = some (PySem.W.instObj C dx) ∧
      ∃ mA, h.Ns1 dx mA ∧ (∀ f, RelO (fs.lookup f) (mA f)) ∧ PySem.Within mA (fs.map (·.1))
  | .own _ => ∃ o, h.get? a = some o
  | .xd fs => ∃ mA, h.Ns1 a mA ∧ ∀ f, RelO (fs.lookup f) (mA f)
  | .rng lo hi => ∃ t u v, h.get? a = some { cls := .type "range", data := .fields #[.int lo t, .int hi u, .int 1 v] }
  | .frz o u => h.get? a = some o ∧ ObjOk H h a u
  | .tbl ps => h.get? a = some { cls := .none, data := .fields ps }
  | .met f x => h.get? a = some (PySem.W.methodObj (.ref f) (.ref x))
  | .ext φ => φ h ∧ (∃ o, h.get? a = some o) ∧ ∀ h1 h2 : Heap, φ h1 → (∀ o, h1.get? a = some o → h2.get? a = some o) → φ h2
def HOk (H : Hp) (h : Heap) : Prop := ∀ a o, H a = some o → ObjOk P w H h a o
end
section
variable {P : Program} {w : World} {H H' : Hp} {h h' : Heap} {a : Addr} {o : HO}
theorem ObjOk.lt (x : ObjOk P w H h a o) : a < h.objs.size := by
  cases o with
  | lst xs => obtain ⟨_, _, _, _, e⟩ := x; exact Heap.lt_size e
  | tup xs => obtain ⟨_, _, _, p⟩ := x; exact p.lt
  | dK kvs => obtain ⟨_, _, _, _, o, _, _, e, _⟩ := x; exact Heap.lt_size e
  | dT kvs => obtain ⟨_, _, _, _, o, _, _, e, _⟩ := x; exact Heap.lt_size e
  | set S n => obtain ⟨o, _, _, _, e, _⟩ := x; exact Heap.lt_size e
  | ins C dx fs => obtain ⟨_, _, _, e, _⟩ := x; exact Heap.lt_size e
  | own y => obtain ⟨_, e⟩ := x; exact Heap.lt_size e
  | xd fs => obtain ⟨_, ⟨_, _, _, e, _⟩, _⟩ := x; exact Heap.lt_size e
  | rng lo hi => obtain ⟨_, _, _, e⟩ := x; exact Heap.lt_size e
  | frz ob u => obtain ⟨e, _⟩ := x; exact Heap.lt_size e
  | tbl ps => exact Heap.lt_size (show h.get? a = some _ from x)
  | met f y => exact Heap.lt_size (show h.get? a = some _ from x)
  | ext φ => obtain ⟨_, ⟨_, e⟩, _⟩ := x; exact Heap.lt_size e
theorem Paired.mapP {α β : Type} {F G : α → β → Prop} : ∀ {l₁ : List α} {l₂ : List β}, Paired F l₁ l₂ → (∀ a b, F a b → G a b) → Paired G l₁ l₂
  | _, _, .nil, _ => .nil
  | _, _, .cons r t, f => .cons (f _ _ r) (Paired.mapP t f)
theorem ObjOk.stay (x : ObjOk P w H h a o) (k : ∀ b u, (b = a ∨ H b = some (.own a)) → h.get? b = some u → h'.get? b = some u)
    (ho : ∀ b, H b = some (.own a) → H' b = some (.own a)) (ht : ∀ b xs, H b = some (.tup xs) → H' b = some (.tup xs)) : ObjOk P w H' h' a o := by
  induction o with
  | lst xs => obtain ⟨z, its, n, r, e⟩ := x; exact ⟨z, its, n, r, k _ _ (.inl rfl) e⟩
  | tup xs => obtain ⟨z, its, r, ob, e, c⟩ := x; exact ⟨z, its, r, ob, k _ _ (.inl rfl) e, c⟩
  | dK kvs => obtain ⟨z, y, vs, r, ob, es, ep, e, c⟩ := x; exact ⟨z, y, vs, r, ob, es, ep, k _ _ (.inl rfl) e, c⟩
  | dT kvs =>
    obtain ⟨z, y, xs, r, ob, es, ep, e, c⟩ := x
    exact ⟨z, y, xs, Paired.mapP r fun p q z => ⟨z.1, ht _ _ z.2.1, z.2.2⟩, ob, es, ep, k _ _ (.inl rfl) e, c⟩
  | set S n => obtain ⟨ob, es, ep, t, e, c⟩ := x; exact ⟨ob, es, ep, t, k _ _ (.inl rfl) e, c⟩
  | ins C dx fs =>
    obtain ⟨d, z, ne, e, mA, ⟨od, es, ep, e2, c⟩, r⟩ := x
    exact ⟨ho _ d, z, ne, k _ _ (.inl rfl) e, mA, ⟨od, es, ep, k _ _ (.inr d) e2, c⟩, r⟩
  | own y => obtain ⟨ob, e⟩ := x; exact ⟨ob, k _ _ (.inl rfl) e⟩
  | xd fs => obtain ⟨mA, ⟨od, es, ep, e, c⟩, r⟩ := x; exact ⟨mA, ⟨od, es, ep, k _ _ (.inl rfl) e, c⟩, r⟩
  | rng lo hi => obtain ⟨t, u, v, e⟩ := x; exact ⟨t, u, v, k _ _ (.inl rfl) e⟩
  | frz ob u ih => obtain ⟨e, q⟩ := x; exact ⟨k _ _ (.inl rfl) e, ih q⟩
  | tbl ps =>
    have e : h.get? a = some { cls := .none, data := .fields ps } := x
    show h'.get? a = some { cls := .none, data := .fields ps }
    exact k a _ (.inl rfl) e
  | met f y =>
    have e : h.get? a = some (PySem.W.methodObj (.ref f) (.ref y)) := x
    show h'.get? a = some (PySem.W.methodObj (.ref f) (.ref y))
    exact k a _ (.inl rfl) e
  | ext φ => obtain ⟨p, ⟨o, e⟩, st⟩ := x; exact ⟨st _ _ p fun o q => k _ _ (.inl rfl) q, ⟨o, k _ _ (.inl rfl) e⟩, st⟩
theorem HOk.lt (x : HOk P w H h) (e : H a = some o) : a < h.objs.size := (x a o e).lt
theorem HOk.fresh (x : HOk P w H h) (e : h.objs.size ≤ a) : H a = none := by
  cases q : H a with
  | none => rfl
  | some u => exact absurd (Nat.lt_of_lt_of_le (x.lt q) e) (Nat.lt_irrefl _)
theorem HOk.kept (x : HOk P w H h) (k : ∀ b u, h.get? b = some u → h'.get? b = some u) : HOk P w H h' := fun a o e =>
  (x a o e).stay (fun b u _ q => k b u q) (fun _ q => q) fun _ _ q => q
theorem HOk.laid (x : HOk P w H h) (k : ∀ b u, h.get? b = some u → h'.get? b = some u) (hp : h.objs.size ≤ a) (new : ObjOk P w (upd H a o) h' a o) : HOk P w (upd H a o) h' := fun b u e => by
  have hn := x.fresh hp
  by_cases hb : b = a
  · subst hb; rw [upd_same] at e; cases e; exact new
  · rw [upd_ne hb] at e
    exact (x b u e).stay (fun c v _ q => k c v q) (fun c q => by rw [upd_ne (ne_of_none q hn)]; exact q) fun c xs q => by rw [upd_ne (ne_of_none q hn)]; exact q
end
def Rd (H : Hp) (a : Addr) (u : HO) : Prop := H a = some u ∨ ∃ o, H a = some (.frz o u)
theorem Rd.ok {P : Program} {w : World} {H : Hp} {h : Heap} {a : Addr} {u : HO} (r : Rd H a u) (x : HOk P w H h) : ObjOk P w H h a u := by
  rcases r with r | ⟨o, r⟩
  · exact x a u r
  · obtain ⟨_, q⟩ := x a _ r
    exact q
def Mut : Option HO → Prop
  | some (.lst _) => True
  | some (.dK _) => True
  | some (.dT _) => True
  | some (.set _ _) => True
  | some (.ins _ _ _) => True
  | some (.ext _) => True
  | _ => False
section
variable {P : Program} {w : World} {H : Hp} {h h' : Heap} {x e : Addr} {o' : HO}
theorem HOk.write (ok : HOk P w H h) (mu : Mut (H x)) (he : e = x ∨ H e = some (.own x)) (k : ∀ b u, b ≠ e → h.get? b = some u → h'.get? b = some u) (heo : ∃ u, h'.get? e = some u)
    (new : ObjOk P w (upd H x o') h' x o') : HOk P w (upd H x o') h' := fun b u q => by
  have nown : ∀ c y, H c = some (.own y) → c ≠ x := fun c y r z => by subst z; rw [r] at mu; exact mu
  have ntup : ∀ c xs, H c = some (.tup xs) → c ≠ x := fun c xs r z => by subst z; rw [r] at mu; exact mu
  by_cases hb : b = x
  · subst hb; rw [upd_same] at q; cases q; exact new
  · rw [upd_ne hb] at q
    by_cases hbe : b = e
    · have q' : H b = some (.own x) := by
        rcases he with z | z
        · exact absurd (hbe.trans z) hb
        · rw [hbe]; exact z
      rw [q] at q'; cases q'
      obtain ⟨v, hv⟩ := heo
      exact ⟨v, by rw [hbe]; exact hv⟩
    · refine (ok b u q).stay (fun c v hc r => k c v ?_ r) (fun c r => by rw [upd_ne (nown c b r)]; exact r) fun c xs r => by rw [upd_ne (ntup c xs r)]; exact r
      rcases hc with rfl | hc
      · exact hbe
      · rintro rfl
        rcases he with z | z
        · exact nown c b hc z
        · rw [hc] at z; cases z; exact hb rfl
end
structure Un (fs ex : List Addr) (H H' : Hp) (h h' : Heap) : Prop where
  keep : ∀ b o, h.get? b = some o → H b = none → b ∉ fs → b ∉ ex → h'.get? b = some o
  slot : ∀ b o, h.get? b = some o → H b = none → b ∈ fs → b ∉ ex → ∃ sl, h'.get? b = some { o with slots := sl }
  free : ∀ b o, h.get? b = some o → H b = none → b ∉ ex → H' b = none
  there : ∀ b o, h.get? b = some o → b ∉ ex → ∃ o', h'.get? b = some o'
  tups : ∀ b xs, H b = some (.tup xs) → H' b = some (.tup xs)
  frzs : ∀ b o u, H b = some (.frz o u) → H' b = some (.frz o u)
  tbls : ∀ b ps, H b = some (.tbl ps) → ∃ more, H' b = some (.tbl (ps ++ more))
section
variable {fs fs' ex ex' : List Addr} {H H1 H2 : Hp} {h h1 h2 h' : Heap} {a x e : Addr} {o : HO}
theorem Un.any (u : Un fs ex H H1 h h1) {b : Addr} {ob : Obj} (q : h.get? b = some ob) (n : H b = none) (hx : b ∉ ex) : ∃ sl, h1.get? b = some { ob with slots := sl } := by
  by_cases hb : b ∈ fs
  · exact u.slot b ob q n hb hx
  · exact ⟨ob.slots, u.keep b ob q n hb hx⟩
theorem Un.kept (k : ∀ b u, h.get? b = some u → h'.get? b = some u) : Un fs ex H H h h' :=
  ⟨fun b ob q _ _ _ => k b ob q, fun b ob q _ _ _ => ⟨ob.slots, k b ob q⟩, fun _ _ _ n _ => n, fun b ob q _ => ⟨ob, k b ob q⟩, fun _ _ q => q, fun _ _ _ q => q, fun _ ps q => ⟨#[], by rw [q]; simp⟩⟩
theorem Un.refl : Un fs ex H H h h := Un.kept fun _ _ q => q
theorem Un.laid (k : ∀ b u, h.get? b = some u → h'.get? b = some u) (hp : h.objs.size ≤ a) (hn : H a = none) : Un fs ex H (upd H a o) h h' where
  keep := fun b u q _ _ _ => k b u q
  slot := fun b u q _ _ _ => ⟨u.slots, k b u q⟩
  free := fun b u q n _ => by rw [upd_ne (Nat.ne_of_lt (Nat.lt_of_lt_of_le (Heap.lt_size q) hp))]; exact n
  there := fun b u q _ => ⟨u, k b u q⟩
  tups := fun b xs q => by rw [upd_ne (ne_of_none q hn)]; exact q
  frzs := fun b u xs q => by rw [upd_ne (ne_of_none q hn)]; exact q
  tbls := fun b ps q => ⟨#[], by rw [upd_ne (ne_of_none q hn), q]; simp⟩
theorem Un.write (mu : Mut (H x)) (he : e = x ∨ H e = some (.own x)) (k : ∀ b u, b ≠ e → h.get? b = some u → h'.get? b = some u) (heo : ∃ u, h'.get? e = some u) : Un fs ex H (upd H x o) h h' := by
  have hx : ∀ b, H b = none → b ≠ x := fun b n z => by subst z; rw [n] at mu; exact mu
  have hb : ∀ b, H b = none → b ≠ e := fun b n z => by
    subst z
    rcases he with r | r
    · exact hx b n r
    · rw [n] at r; cases r
  have hm : ∀ b u, H b = some u → ¬ Mut (some u) → b ≠ x := fun b u q nm z => by subst z; rw [q] at mu; exact nm mu
  refine ⟨fun b u q n _ _ => k b u (hb b n) q, fun b u q n _ _ => ⟨u.slots, k b u (hb b n) q⟩, fun b u q n _ => by rw [upd_ne (hx b n)]; exact n, fun b u q _ => ?_,
    fun b xs q => by rw [upd_ne (hm b _ q fun z => z)]; exact q, fun b u xs q => by rw [upd_ne (hm b _ q fun z => z)]; exact q, fun b ps q => ⟨#[], by rw [upd_ne (hm b _ q fun z => z), q]; simp⟩⟩
  by_cases hbe : b = e
  · subst hbe; exact heo
  · exact ⟨u, k b u hbe q⟩
end
def trk (h : Heap) (H : Hp) : List Addr := (List.range h.objs.size).filter fun a => (H a).isSome
def hidT (h : Heap) (H : Hp) : Heap := PySem.W.hideAll h (trk h H)
theorem hidT_size (h : Heap) (H : Hp) : (hidT h H).objs.size = h.objs.size := PySem.W.hideAll_size _ _
theorem hidT_get {h : Heap} {H : Hp} {b : Addr} {o : Obj} (e : h.get? b = some o) (n : H b = none) : (hidT h H).get? b = some o :=
  PySem.W.hideAll_get _ e fun hm => by
    have q : (H b).isSome = true := (List.mem_filter.mp hm).2
    rw [n] at q; simp at q
theorem of_hidT {h : Heap} {H : Hp} {b : Addr} {o : Obj} (e : (hidT h H).get? b = some o) : h.get? b = some o ∧ H b = none := by
  have e' : h.get? b = some o := PySem.W.of_hideAll (trk h H) e
  refine ⟨e', ?_⟩
  cases q : H b with
  | none => rfl
  | some x =>
    have hm : b ∈ trk h H := List.mem_filter.mpr ⟨List.mem_range.mpr (Heap.lt_size e'), by simp [q]⟩
    have z : (hidT h H).get? b = none := PySem.W.hideAll_none (trk h H) hm
    rw [z] at e; cases e
def allNews (g h : Heap) (L : Addr) : List (Addr × Obj) := (List.range h.objs.size).filterMap fun a => if a = L ∨ (g.get? a).isSome = true then none else (h.get? a).map fun o => (a, o)
def rest (g h : Heap) (L d : Addr) : List (Addr × Obj) := (allNews g h L).filter fun p => decide (p.1 ≠ d)
end L2
namespace L2
open PySem PySem.Spec PyProof.Rows
structure Mod (K : PySem.W.Frag) (mg : Str → Option Value) (base : Heap) : Prop where
  kin : K.In base
  glob : base.Ns mainGlobals mg
  blt : ∃ mb, base.Ns builtinsNs mb ∧ ∀ x : Str, x ≠ "__name__" → mb x = bootBuiltins x
  nolimit : base.NoLimit
structure Cx where
  prog : Program
  w : World
  K : PySem.W.Frag
  mg : Str → Option Value
  base : Heap
  A : Around
  N : List Str
  s₀ : Shared
  H₀ : Hp
  env : Env
  outer : List Env
  stack : List Env
  ex : List Addr
  fn : Str → Bool
  calm : Bool
  pn : List (Addr × Obj)
  xe : Value → Shared → Prop
def frs (l : List Env) : List Addr := l.filterMap (·.frame)
abbrev Cx.fs (X : Cx) : List Addr := frs X.outer
def Vis (sc : Scope) (x : Str) : Prop := sc.names.lookup x = some .local ∨ sc.names.lookup x = some .cell ∨ sc.names.lookup x = some .free
def Loc (sc : Scope) (x : Str) : Prop := sc.names.lookup x = some .local ∨ sc.names.lookup x = some .cell
def Look (env : Env) (h : Heap) (m : Str → Option Value) (x : Str) (u : Value) : Prop :=
  (env.kindOf x = some .local ∧ m x = some u) ∨ ((env.kindOf x = some .cell ∨ env.kindOf x = some .free) ∧ ∃ c, env.cells.lookup x = some c ∧ h.IsCell c (some u))
structure Cx.Ok (X : Cx) : Prop where
  mod : Mod X.K X.mg X.base
  kind : X.env.scope.kind = .function
  glob : X.env.globals = mainGlobals
  blt : X.env.builtins = builtinsNs
  above : X.s₀.heap.objs.size ≤ X.env.locals
  inj : ∀ x y c, X.env.cells.lookup x = some c → X.env.cells.lookup y = some c → x = y
  has : ∀ x, (X.env.kindOf x = some .cell ∨ X.env.kindOf x = some .free) → ∃ c, X.env.cells.lookup x = some c
  cab : ∀ x c, X.fn x = true → X.env.cells.lookup x = some c → X.s₀.heap.objs.size ≤ c
  hd : X.calm = true → X.A.handled = none
  frames : X.A.frames = some X.stack
  stk : X.stack = X.outer ∨ (X.stack = X.env :: X.outer ∧ X.env.frame = some X.env.locals)
  exf : ∀ b ∈ X.ex, b ≠ X.env.locals ∧ ∀ x c, X.env.cells.lookup x = some c → c ≠ b
  bs : ∀ b o, X.base.get? b = some o → X.s₀.heap.get? b = some o ∧ X.H₀ b = none
  bsz : X.base.objs.size ≤ X.s₀.heap.objs.size
  noex : ∀ b o, X.base.get? b = some o → b ∉ X.ex
  exfs : ∀ b ∈ X.ex, b ∉ X.fs
  funs : X.s₀.heap.FunFrames X.base X.outer
  frf : ∀ b ∈ X.fs, X.H₀ b = none
structure Inv (X : Cx) (pins : List (Addr × Obj)) (σ : List (Option V)) (H : Hp) (s : Shared) : Prop where
  ok : X.Ok
  os : s.os = X.s₀.os
  bare : AllBare s.gens
  base : Un X.fs X.ex X.H₀ H X.s₀.heap s.heap
  loc : ∃ m, s.heap.Ns X.env.locals m ∧ ∀ (i : Nat) (x : Str) (v : V), X.N[i]? = some x → σ[i]? = some (some v) → Vis X.env.scope x → ∃ u, RelV v u ∧ Look X.env s.heap m x u
  cell : ∀ x c, X.env.cells.lookup x = some c → ∃ v, s.heap.IsCell c v
  free : H X.env.locals = none
  freeC : ∀ x c, X.env.cells.lookup x = some c → H c = none
  pin : ∀ p ∈ X.pn ++ pins, s.heap.get? p.1 = some p.2 ∧ H p.1 = none ∧ p.1 ≠ X.env.locals ∧ p.1 ∉ X.fs ∧ ∀ v, p.2.data ≠ .cell v
  hok : HOk X.prog X.w H s.heap
  len : σ.length = X.N.length
section
variable {X : Cx} {pins : List (Addr × Obj)} {σ : List (Option V)} {H H' : Hp} {s : Shared} {h' : Heap}
theorem Cx.Ok.nofr (ok : X.Ok) {b : Addr} {o : Obj} (e : X.base.get? b = some o) : b ∉ X.fs := fun hb => by
  have := (ok.funs.mem hb).1
  rw [e] at this; cases this
theorem Inv.bs (I : Inv X pins σ H s) : ∀ b o, X.base.get? b = some o → s.heap.get? b = some o ∧ H b = none := fun b o e =>
  ⟨I.base.keep b o (I.ok.bs b o e).1 (I.ok.bs b o e).2 (I.ok.nofr e) (I.ok.noex b o e), I.base.free b o (I.ok.bs b o e).1 (I.ok.bs b o e).2 (I.ok.noex b o e)⟩
theorem Inv.bk (I : Inv X pins σ H s) : ∀ b o, X.base.get? b = some o → s.heap.get? b = some o := fun b o e => (I.bs b o e).1
theorem Inv.mod (I : Inv X pins σ H s) : Mod X.K X.mg X.base := I.ok.mod
theorem Inv.kIn (I : Inv X pins σ H s) : X.K.In s.heap := I.ok.mod.kin.keeps I.bk
theorem Inv.lt (I : Inv X pins σ H s) : X.env.locals < s.heap.objs.size := let ⟨_, hn, _⟩ := I.loc; hn.lt
theorem Inv.sz (I : Inv X pins σ H s) : X.s₀.heap.objs.size ≤ s.heap.objs.size := Nat.le_trans I.ok.above (Nat.le_of_lt I.lt)
theorem Inv.nofs (I : Inv X pins σ H s) {a : Addr} (h : s.heap.objs.size ≤ a) : a ∉ X.fs := fun hb => by
  obtain ⟨_, o, ho, _⟩ := I.ok.funs.mem hb
  exact absurd (Nat.lt_of_lt_of_le (Heap.lt_size ho) (Nat.le_trans I.sz h)) (Nat.lt_irrefl _)
theorem Inv.cne (I : Inv X pins σ H s) : ∀ x c, X.env.cells.lookup x = some c → c ≠ X.env.locals := fun x c e z => by
  obtain ⟨v, o, ho, hd⟩ := I.cell x c e
  obtain ⟨m, ⟨o', es, ep, ho', hd', _⟩, _⟩ := I.loc
  rw [z, ho'] at ho; cases ho; rw [hd'] at hd; cases hd
theorem Inv.funs (I : Inv X pins σ H s) : s.heap.FunFrames X.base X.outer := by
  have all : ∀ (l : List Env), (∀ b ∈ frs l, b ∈ X.fs) → X.s₀.heap.FunFrames X.base l → s.heap.FunFrames X.base l := by
    intro l
    induction l with
    | nil => intro _ _; trivial
    | cons env r ih =>
      intro hs hl
      obtain ⟨hk, ⟨L, o, hf, hn, ho, hd⟩, hr⟩ := hl
      have hL : L ∈ X.fs := hs L (by unfold frs; rw [List.filterMap_cons, hf]; exact List.mem_cons_self)
      obtain ⟨sl, e⟩ := I.base.slot L o ho (I.ok.frf L hL) hL fun z => I.ok.exfs L z hL
      exact ⟨hk, ⟨L, _, hf, hn, e, hd⟩, ih (fun b hb => hs b (by unfold frs; rw [List.filterMap_cons, hf]; exact List.mem_cons_of_mem _ hb)) hr⟩
  exact all X.outer (fun _ hb => hb) I.ok.funs
theorem Inv.stack (I : Inv X pins σ H s) : s.heap.FunFrames X.base X.stack := by
  rcases I.ok.stk with e | ⟨e, hf⟩
  · rw [e]; exact I.funs
  · rw [e]
    obtain ⟨m, hn, _⟩ := I.loc
    refine .cons (by rw [I.ok.kind]; decide) hf hn ?_ I.funs
    exact Heap.get?_none_of_le (Nat.le_trans I.ok.bsz I.ok.above)
theorem Inv.stkSub (I : Inv X pins σ H s) : ∀ b ∈ frs X.stack, b ∈ X.env.locals :: X.fs := fun b hb => by
  rcases I.ok.stk with e | ⟨e, hf⟩
  · rw [e] at hb; exact List.mem_cons_of_mem _ hb
  · rw [e] at hb
    unfold frs at hb
    rw [List.filterMap_cons, hf] at hb
    exact hb
theorem Inv.stkFree (I : Inv X pins σ H s) : ∀ b ∈ frs X.stack, H b = none := fun b hb => by
  rcases List.mem_cons.mp (I.stkSub b hb) with e | hb
  · rw [e]; exact I.free
  · obtain ⟨_, o, ho, _⟩ := I.ok.funs.mem hb
    exact I.base.free b o ho (I.ok.frf b hb) fun z => I.ok.exfs b z hb
theorem Inv.step {g' : Array GenState} {t' : Nat} {d' : Drawn} {ch : List Addr} (I : Inv X pins σ H s)
    (hch : ∀ b ∈ ch, (b ∈ X.ex ∨ X.s₀.heap.objs.size ≤ b) ∧ b ≠ X.env.locals ∧ (∀ x c, X.env.cells.lookup x = some c → c ≠ b) ∧ ∀ p ∈ X.pn ++ pins, p.1 ≠ b)
    (keep : ∀ b o, b ≠ X.env.locals → b ∉ X.fs → b ∉ ch → s.heap.get? b = some o → H b = none → h'.get? b = some o)
    (slot : ∀ b o, b ≠ X.env.locals → b ∈ X.fs → b ∉ ch → s.heap.get? b = some o → H b = none → ∃ sl, h'.get? b = some { o with slots := sl }) (free : ∀ b o, b ∉ ch → s.heap.get? b = some o → H b = none → H' b = none)
    (there : ∀ b o, b ∉ ch → s.heap.get? b = some o → ∃ o', h'.get? b = some o')
    (tups : ∀ b xs, H b = some (.tup xs) → H' b = some (.tup xs)) (frzs : ∀ b o u, H b = some (.frz o u) → H' b = some (.frz o u)) (tbls : ∀ b ps, H b = some (.tbl ps) → ∃ more, H' b = some (.tbl (ps ++ more)))
    (ns : ∀ m, s.heap.Ns X.env.locals m → h'.Ns X.env.locals m) (hok : HOk X.prog X.w H' h') (hg : AllBare g') :
    Inv X pins σ H' { s with heap := h', gens := g', drawn := d', toks := t' } := by
  have neL : ∀ b o, X.s₀.heap.get? b = some o → b ≠ X.env.locals := fun b o e => Nat.ne_of_lt (Nat.lt_of_lt_of_le (Heap.lt_size e) I.ok.above)
  have neC : ∀ b o, X.s₀.heap.get? b = some o → b ∉ X.ex → b ∉ ch := fun b o e hx hb => by
    rcases (hch b hb).1 with z | z
    · exact hx z
    · exact absurd (Nat.lt_of_lt_of_le (Heap.lt_size e) z) (Nat.lt_irrefl _)
  have cellK : ∀ x c, X.env.cells.lookup x = some c → ∀ v, s.heap.IsCell c v → h'.IsCell c v := fun x c e v ⟨o, ho, hd⟩ => by
    have nch : c ∉ ch := fun z => (hch c z).2.2.1 x c e rfl
    by_cases hc : c ∈ X.fs
    · obtain ⟨sl, q⟩ := slot c o (I.cne x c e) hc nch ho (I.freeC x c e)
      exact ⟨_, q, hd⟩
    · exact ⟨o, keep c o (I.cne x c e) hc nch ho (I.freeC x c e), hd⟩
  refine ⟨I.ok, I.os, hg, ⟨fun b o e n hb hx => ?_, fun b o e n hb hx => ?_, fun b o e n hx => ?_, fun b o e hx => ?_, fun b xs e => tups b xs (I.base.tups b xs e), fun b o xs e => frzs b o xs (I.base.frzs b o xs e), fun b ps e => ?_⟩, ?_, fun x c e => ?_, ?_, fun x c e => ?_, fun p hp => ?_, hok, I.len⟩
  · exact keep b o (neL b o e) hb (neC b o e hx) (I.base.keep b o e n hb hx) (I.base.free b o e n hx)
  · obtain ⟨sl, e1⟩ := I.base.slot b o e n hb hx
    obtain ⟨sl', e2⟩ := slot b _ (neL b o e) hb (neC b o e hx) e1 (I.base.free b o e n hx)
    exact ⟨sl', e2⟩
  · obtain ⟨o', e1⟩ := I.base.there b o e hx
    exact free b o' (neC b o e hx) e1 (I.base.free b o e n hx)
  · obtain ⟨o', e1⟩ := I.base.there b o e hx
    exact there b o' (neC b o e hx) e1
  · obtain ⟨m1, e1⟩ := I.base.tbls b ps e
    obtain ⟨m2, e2⟩ := tbls b _ e1
    exact ⟨m1 ++ m2, by rw [e2, Array.append_assoc]⟩
  · obtain ⟨m, hn, hl⟩ := I.loc
    refine ⟨m, ns m hn, fun i x v e1 e2 e3 => ?_⟩
    obtain ⟨u, r, l⟩ := hl i x v e1 e2 e3
    refine ⟨u, r, ?_⟩
    rcases l with l | ⟨k, c, e, z⟩
    · exact .inl l
    · exact .inr ⟨k, c, e, cellK x c e _ z⟩
  · obtain ⟨v, z⟩ := I.cell x c e
    exact ⟨v, cellK x c e v z⟩
  · obtain ⟨m, ⟨o, _, _, ho, _⟩, _⟩ := I.loc
    exact free _ o (fun z => (hch _ z).2.1 rfl) ho I.free
  · obtain ⟨v, o, ho, hd⟩ := I.cell x c e
    exact free c o (fun z => (hch c z).2.2.1 x c e rfl) ho (I.freeC x c e)
  · obtain ⟨e, n, ne, nf, d⟩ := I.pin p hp
    have nch : p.1 ∉ ch := fun z => (hch p.1 z).2.2.2 p hp rfl
    exact ⟨keep p.1 p.2 ne nf nch e n, free p.1 p.2 nch e n, ne, nf, d⟩
theorem Inv.un {t' : Nat} (I : Inv X pins σ H s) (u : Un X.fs [] H H' s.heap h') (hok : HOk X.prog X.w H' h') : Inv X pins σ H' { s with heap := h', toks := t' } := by
  obtain ⟨m, ⟨o, es, ep, ho, r⟩, _⟩ := id I.loc
  obtain ⟨sl, hL⟩ := u.any ho I.free (by simp)
  exact I.step (g' := s.gens) (d' := s.drawn) (ch := []) (fun _ z => nomatch z) (fun b o _ hb _ e n => u.keep b o e n hb (by simp)) (fun b o _ hb _ e n => u.slot b o e n hb (by simp)) (fun b o _ e n => u.free b o e n (by simp)) (fun b o _ e => u.there b o e (by simp)) u.tups u.frzs u.tbls (fun m' hm => by
    obtain ⟨o', es', ep', ho', r'⟩ := hm
    rw [ho] at ho'; cases ho'
    exact ⟨_, es', ep', hL, r'⟩) hok I.bare
theorem Inv.call {g' : Array GenState} {t' : Nat} {d' : Drawn} {ch : List Addr} (I : Inv X pins σ H s) (u : Un (frs X.stack) ch H H' s.heap h') (hok : HOk X.prog X.w H' h') (hg : AllBare g')
    (hch : ∀ b ∈ ch, (b ∈ X.ex ∨ X.s₀.heap.objs.size ≤ b) ∧ b ≠ X.env.locals ∧ (∀ x c, X.env.cells.lookup x = some c → c ≠ b) ∧ ∀ p ∈ X.pn ++ pins, p.1 ≠ b) :
    Inv X pins σ H' { s with heap := h', gens := g', drawn := d', toks := t' } := by
  obtain ⟨m, ⟨o, es, ep, ho, r⟩, _⟩ := id I.loc
  obtain ⟨sl, hL⟩ := u.any ho I.free fun z => (hch _ z).2.1 rfl
  exact I.step (ch := ch) hch (fun b o hL hb hc e n => u.keep b o e n (fun z => (List.mem_cons.mp (I.stkSub b z)).elim hL hb) hc) (fun b o _ _ hc e n => u.any e n hc) (fun b o hc e n => u.free b o e n hc) (fun b o hc e => u.there b o e hc) u.tups u.frzs u.tbls (fun m' hm => by
    obtain ⟨o', es', ep', ho', r'⟩ := hm
    rw [ho] at ho'; cases ho'
    exact ⟨_, es', ep', hL, r'⟩) hok hg
theorem Inv.turned {t' : Nat} {it : Addr} (I : Inv X pins σ H s) (k : ∀ b o, b ≠ it → s.heap.get? b = some o → h'.get? b = some o) (hn : H it = none) (hL : it ≠ X.env.locals)
    (h1 : it ∈ X.ex ∨ X.s₀.heap.objs.size ≤ it) (h2 : ∀ x c, X.env.cells.lookup x = some c → c ≠ it) (h3 : ∀ p ∈ X.pn ++ pins, p.1 ≠ it) : Inv X pins σ H { s with heap := h', toks := t' } := by
  have nit : ∀ b u, H b = some u → b ≠ it := fun b u e z => by rw [z, hn] at e; cases e
  refine I.step (g' := s.gens) (d' := s.drawn) (ch := [it]) (fun b hb => ?_) (fun b o _ _ hc e _ => k b o (fun z => hc (by simp [z])) e) (fun b o _ _ hc e _ => ⟨o.slots, k b o (fun z => hc (by simp [z])) e⟩) (fun _ _ _ _ n => n)
    (fun b o hc e => ⟨o, k b o (fun z => hc (by simp [z])) e⟩) (fun _ _ e => e) (fun _ _ _ e => e) (fun b ps e => ⟨#[], by rw [e]; simp⟩) (fun m hm => ?_) (fun b u e => ?_) I.bare
  · have e : b = it := by simpa using hb
    subst e
    exact ⟨h1, hL, h2, h3⟩
  · obtain ⟨o, es, ep, ho, r⟩ := hm
    exact ⟨o, es, ep, k _ o (Ne.symm hL) ho, r⟩
  · refine (I.hok b u e).stay (fun c v hc q => k c v ?_ q) (fun _ q => q) fun _ _ q => q
    rcases hc with z | z
    · rw [z]; exact nit b u e
    · exact nit c _ z
theorem Inv.tok (I : Inv X pins σ H s) (t : Nat) : Inv X pins σ H { s with toks := t } := I.un (h' := s.heap) (t' := t) Un.refl I.hok
theorem Inv.kept {t' : Nat} (I : Inv X pins σ H s) (k : ∀ b u, s.heap.get? b = some u → h'.get? b = some u) : Inv X pins σ H { s with heap := h', toks := t' } := I.un (Un.kept k) (I.hok.kept k)
theorem Inv.laid {a : Addr} {o : HO} {t' : Nat} (I : Inv X pins σ H s) (k : ∀ b u, s.heap.get? b = some u → h'.get? b = some u) (hp : s.heap.objs.size ≤ a) (new : ObjOk X.prog X.w (upd H a o) h' a o) :
    Inv X pins σ (upd H a o) { s with heap := h', toks := t' } := I.un (Un.laid k hp (I.hok.fresh hp)) (I.hok.laid k hp new)
theorem Inv.write {x e : Addr} {o : HO} {t' : Nat} (I : Inv X pins σ H s) (mu : Mut (H x)) (he : e = x ∨ H e = some (.own x)) (k : ∀ b u, b ≠ e → s.heap.get? b = some u → h'.get? b = some u) (heo : ∃ u, h'.get? e = some u)
    (new : ObjOk X.prog X.w (upd H x o) h' x o) : Inv X pins σ (upd H x o) { s with heap := h', toks := t' } := I.un (Un.write mu he k heo) (I.hok.write mu he k heo new)
theorem Inv.weak {σ' : List (Option V)} (I : Inv X pins σ H s) (hl : σ'.length = σ.length) (w : ∀ (i : Nat) v, σ'[i]? = some (some v) → σ[i]? = some (some v)) : Inv X pins σ' H s :=
  ⟨I.ok, I.os, I.bare, I.base, let ⟨m, hn, hl'⟩ := I.loc; ⟨m, hn, fun i x v e1 e2 e3 => hl' i x v e1 (w i v e2) e3⟩, I.cell, I.free, I.freeC, I.pin, I.hok, hl.trans I.len⟩
theorem Inv.pins_of {pins' : List (Addr × Obj)} (I : Inv X pins σ H s) (h : ∀ p ∈ pins', s.heap.get? p.1 = some p.2 ∧ H p.1 = none ∧ p.1 ≠ X.env.locals ∧ p.1 ∉ X.fs ∧ ∀ v, p.2.data ≠ .cell v) : Inv X pins' σ H s :=
  ⟨I.ok, I.os, I.bare, I.base, I.loc, I.cell, I.free, I.freeC, fun p hp => (List.mem_append.mp hp).elim (fun z => I.pin p (List.mem_append_left _ z)) (h p), I.hok, I.len⟩
theorem nodup_ix {N : List Str} (hN : N.Nodup) {i j : Nat} {x : Str} (a : N[i]? = some x) (b : N[j]? = some x) : i = j := by
  obtain ⟨h1, e1⟩ := List.getElem?_eq_some_iff.mp a
  obtain ⟨h2, e2⟩ := List.getElem?_eq_some_iff.mp b
  exact (List.getElem_inj hN).mp (e1.trans e2.symm)
theorem store_ok2 {M : Model} {A : Around} {E : Value → Shared → Prop} {i : Nat} {x : Str} {v : V} {u : Value} {Q : Unit → Shared → Prop} (I : Inv X pins σ H s) (hN : X.N.Nodup) (hi : X.N[i]? = some x) (hx : Loc X.env.scope x) (r : RelV v u)
    (h : ∀ s', Inv X pins (σ.set i (some v)) H s' → (∃ a, Heap.SameBut a s.heap s'.heap ∧ (a = X.env.locals ∨ X.env.cells.lookup x = some a)) → Q () s') (hf : X.fn x = true ∨ X.env.scope.names.lookup x = some .local := by first | exact .inl rfl | exact .inr rfl | assumption) : wpAny M A (storeName X.env x u) Q E s := by
  obtain ⟨m, hn, hl⟩ := id I.loc
  have hcls : (X.env.scope.kind == .class || (X.env.scope.kind == .module && X.env.locals != X.env.globals)) = false := by rw [I.ok.kind]; rfl
  have hiσ : i < σ.length := by rw [I.len]; exact (List.getElem?_eq_some_iff.mp hi).1
  have cne := I.cne
  have tracked : ∀ {a : Addr} {h' : Heap}, (∃ o, s.heap.get? a = some o ∧ H a = none) → Heap.SameBut a s.heap h' → HOk X.prog X.w H h' := fun {a h'} ha hs b ob e => by
    obtain ⟨_, _, hfree⟩ := ha
    refine (I.hok b ob e).stay (fun c w' hc q => (hs.2 c ?_).trans q) (fun _ q => q) fun _ _ q => q
    rintro rfl
    rcases hc with rfl | hc
    · rw [hfree] at e; cases e
    · rw [hfree] at hc; cases hc
  rcases hx with hk | hk
  · refine wpAny_storeName_local hk hn (fun h' hn' hs => ?_) hcls
    obtain ⟨oL, _, _, hoL, _⟩ := id hn
    refine h _ ⟨I.ok, I.os, I.bare, ⟨fun b o e n hb hx => ?_, fun b o e n hb hx => ?_, I.base.free, fun b o e hx => ?_, I.base.tups, I.base.frzs, I.base.tbls⟩, ⟨_, hn', fun j y v' e1 e2 e3 => ?_⟩, fun y c e => ?_, I.free, I.freeC, fun p hp => ?_, tracked ⟨oL, hoL, I.free⟩ hs, by simpa using I.len⟩ ⟨_, hs, .inl rfl⟩
    · exact (hs.2 b (Nat.ne_of_lt (Nat.lt_of_lt_of_le (Heap.lt_size e) I.ok.above))).trans (I.base.keep b o e n hb hx)
    · obtain ⟨sl, e1⟩ := I.base.slot b o e n hb hx
      exact ⟨sl, (hs.2 b (Nat.ne_of_lt (Nat.lt_of_lt_of_le (Heap.lt_size e) I.ok.above))).trans e1⟩
    · obtain ⟨o', e1⟩ := I.base.there b o e hx
      exact ⟨o', (hs.2 b (Nat.ne_of_lt (Nat.lt_of_lt_of_le (Heap.lt_size e) I.ok.above))).trans e1⟩
    · by_cases hj : j = i
      · subst hj
        rw [hi] at e1; cases e1
        rw [List.getElem?_set_self hiσ] at e2
        cases e2
        exact ⟨u, r, .inl ⟨hk, by simp⟩⟩
      · rw [List.getElem?_set_ne (Ne.symm hj)] at e2
        obtain ⟨u', r', q⟩ := hl j y v' e1 e2 e3
        refine ⟨u', r', ?_⟩
        rcases q with ⟨k, e⟩ | ⟨k, c, e, z⟩
        · refine .inl ⟨k, ?_⟩
          have : y ≠ x := fun e => hj (nodup_ix hN e1 (e ▸ hi))
          simp [this, e]
        · exact .inr ⟨k, c, e, z.sameBut hs (cne y c e)⟩
    · obtain ⟨w', z⟩ := I.cell y c e
      exact ⟨w', z.sameBut hs (cne y c e)⟩
    · obtain ⟨e, n, ne, nf, d⟩ := I.pin p hp
      exact ⟨(hs.2 p.1 ne).trans e, n, ne, nf, d⟩
  · have hfn : X.fn x = true := by
      rcases hf with z | z
      · exact z
      · rw [z] at hk; cases hk
    obtain ⟨c, hc⟩ := I.ok.has x (.inl hk)
    obtain ⟨w', z⟩ := I.cell x c hc
    refine wpAny_storeName_cell I.ok.kind hk hc z (fun h' hc' hs => ?_)
    obtain ⟨oc, hoc, hocd⟩ := id z
    refine h { s with heap := h' } ⟨I.ok, I.os, I.bare, ⟨fun b o e n hb hx => ?_, fun b o e n hb hx => ?_, I.base.free, fun b o e hx => ?_, I.base.tups, I.base.frzs, I.base.tbls⟩, ⟨m, hn.sameBut hs (Ne.symm (cne x c hc)), fun j y v' e1 e2 e3 => ?_⟩, fun y c' e => ?_, I.free, I.freeC, fun p hp => ?_, tracked ⟨oc, hoc, I.freeC x c hc⟩ hs, by simpa using I.len⟩ ⟨c, hs, .inr hc⟩
    · exact (hs.2 b (Nat.ne_of_lt (Nat.lt_of_lt_of_le (Heap.lt_size e) (I.ok.cab x c hfn hc)))).trans (I.base.keep b o e n hb hx)
    · obtain ⟨sl, e1⟩ := I.base.slot b o e n hb hx
      exact ⟨sl, (hs.2 b (Nat.ne_of_lt (Nat.lt_of_lt_of_le (Heap.lt_size e) (I.ok.cab x c hfn hc)))).trans e1⟩
    · obtain ⟨o', e1⟩ := I.base.there b o e hx
      exact ⟨o', (hs.2 b (Nat.ne_of_lt (Nat.lt_of_lt_of_le (Heap.lt_size e) (I.ok.cab x c hfn hc)))).trans e1⟩
    · by_cases hj : j = i
      · subst hj
        rw [hi] at e1; cases e1
        rw [List.getElem?_set_self hiσ] at e2
        cases e2
        exact ⟨u, r, .inr ⟨.inl hk, c, hc, hc'⟩⟩
      · rw [List.getElem?_set_ne (Ne.symm hj)] at e2
        obtain ⟨u', r', q⟩ := hl j y v' e1 e2 e3
        refine ⟨u', r', ?_⟩
        rcases q with q | ⟨k, c', e, z'⟩
        · exact .inl q
        · refine .inr ⟨k, c', e, z'.sameBut hs ?_⟩
          rintro rfl
          exact hj (nodup_ix hN e1 (I.ok.inj _ _ _ e hc ▸ hi))
    · by_cases hcc : c' = c
      · subst hcc; exact ⟨_, hc'⟩
      · obtain ⟨w2, z2⟩ := I.cell y c' e
        exact ⟨w2, z2.sameBut hs hcc⟩
    · obtain ⟨e, n, ne, nf, d⟩ := I.pin p hp
      refine ⟨(hs.2 p.1 ?_).trans e, n, ne, nf, d⟩
      intro q
      rw [q, hoc] at e
      have q' : oc = p.2 := Option.some.inj e
      exact d w' (by rw [← q']; exact hocd)
theorem store_ok {M : Model} {A : Around} {E : Value → Shared → Prop} {i : Nat} {x : Str} {v : V} {u : Value} {Q : Unit → Shared → Prop} (I : Inv X pins σ H s) (hN : X.N.Nodup) (hi : X.N[i]? = some x) (hx : Loc X.env.scope x) (r : RelV v u)
    (h : ∀ s', Inv X pins (σ.set i (some v)) H s' → Q () s') (hf : X.fn x = true ∨ X.env.scope.names.lookup x = some .local := by first | exact .inl rfl | exact .inr rfl | assumption) : wpAny M A (storeName X.env x u) Q E s :=
  store_ok2 I hN hi hx r (fun s' I' _ => h s' I') hf
theorem Inv.call' {s' : Shared} {ch : List Addr} (I : Inv X pins σ H s) (ho : s'.os = s.os) (u : Un (frs X.stack) ch H H' s.heap s'.heap) (hok : HOk X.prog X.w H' s'.heap) (hg : AllBare s'.gens)
    (hch : ∀ b ∈ ch, (b ∈ X.ex ∨ X.s₀.heap.objs.size ≤ b) ∧ b ≠ X.env.locals ∧ (∀ x c, X.env.cells.lookup x = some c → c ≠ b) ∧ ∀ p ∈ X.pn ++ pins, p.1 ≠ b) : Inv X pins σ H' s' := by
  obtain ⟨h', g', d', t', o'⟩ := s'
  have e : o' = s.os := ho
  subst e
  exact I.call (g' := g') (t' := t') (d' := d') u hok hg hch
end
abbrev XK := Value → Option Addr → Hp → Prop
abbrev St := List (Option V)
abbrev VK := V → Hp → Prop
abbrev TE := St → Hp → VK → Prop
abbrev TT := St → Hp → (Bool → Hp → Prop) → Prop
abbrev TA := St → Hp → (List V → Hp → Prop) → Prop
structure Ends where
  nx : St → Hp → Prop
  rt : VK
  bk : St → Hp → Prop := fun _ _ => False
  ct : St → Hp → Prop := fun _ _ => False
abbrev TS := Ends → St → Hp → Prop
def EP (X : Cx) (pins : List (Addr × Obj)) (σ : St) (Q : VK) (u : Value) (s' : Shared) : Prop := ∃ v H', Inv X pins σ H' s' ∧ RelV v u ∧ Q v H'
def TP (X : Cx) (pins : List (Addr × Obj)) (σ : St) (Q : Bool → Hp → Prop) (b : Bool) (s' : Shared) : Prop := ∃ H', Inv X pins σ H' s' ∧ Q b H'
def AP (X : Cx) (pins : List (Addr × Obj)) (σ : St) (Q : List V → Hp → Prop) (us : List Value) (s' : Shared) : Prop := ∃ vs H', Inv X pins σ H' s' ∧ Vals vs us ∧ Q vs H'
def SP (X : Cx) (pins : List (Addr × Obj)) (D : Ends) (f : Flow) (s' : Shared) : Prop :=
  match f with
  | .next => ∃ σ' H', Inv X pins σ' H' s' ∧ D.nx σ' H'
  | .brk => ∃ σ' H', Inv X pins σ' H' s' ∧ D.bk σ' H'
  | .cont => ∃ σ' H', Inv X pins σ' H' s' ∧ D.ct σ' H'
  | .ret u => ∃ v σ' H', Inv X pins σ' H' s' ∧ RelV v u ∧ D.rt v H'
def PE (X : Cx) (e : Expr) (t : TE) : Prop :=
  ∀ (pins : List (Addr × Obj)) (s : Shared) (σ : St) (H : Hp) (Q : VK), Inv X pins σ H s → t σ H Q → wpAny (model X.prog X.w) X.A (eval e X.env) (EP X pins σ Q) X.xe s
def PT (X : Cx) (e : Expr) (t : TT) : Prop :=
  ∀ (pins : List (Addr × Obj)) (s : Shared) (σ : St) (H : Hp) (Q : Bool → Hp → Prop), Inv X pins σ H s → t σ H Q → wpAny (model X.prog X.w) X.A (isTrue e X.env (eval e X.env)) (TP X pins σ Q) X.xe s
def PW (X : Cx) (e : Expr) (t : TT) : Prop :=
  ∀ (whole : Sem Value) (pins : List (Addr × Obj)) (s : Shared) (σ : St) (H : Hp) (Q : Bool → Hp → Prop), Inv X pins σ H s → t σ H Q → wpAny (model X.prog X.w) X.A (isTrue e X.env whole) (TP X pins σ Q) X.xe s
theorem PW.pt {X : Cx} {e : Expr} {t : TT} (h : PW X e t) : PT X e t := h _
def PA (X : Cx) (es : List Expr) (t : TA) : Prop :=
  ∀ (pos : Pos) (pins : List (Addr × Obj)) (s : Shared) (σ : St) (H : Hp) (Q : List V → Hp → Prop), Inv X pins σ H s → t σ H Q → wpAny (model X.prog X.w) X.A (spliced (backTo pos (starEach es X.env))) (AP X pins σ Q) X.xe s
def PS (X : Cx) (st : Stmt) (t : TS) : Prop :=
  ∀ (pins : List (Addr × Obj)) (s : Shared) (σ : St) (H : Hp) (D : Ends), Inv X pins σ H s → t D σ H → wpAny (model X.prog X.w) X.A (exec st X.env) (SP X pins D) X.xe s
def PSs (X : Cx) (st : List Stmt) (t : TS) : Prop :=
  ∀ (pins : List (Addr × Obj)) (s : Shared) (σ : St) (H : Hp) (D : Ends), Inv X pins σ H s → t D σ H → wpAny (model X.prog X.w) X.A (execs st X.env) (SP X pins D) X.xe s
theorem thn {α : Type} {t : Sem α} {Q Q' : α → Shared → Prop} {M : Model} {A : Around} {E : Value → Shared → Prop} {s : Shared} (h : wpAny M A t Q E s) (hQ : ∀ a s, Q a s → Q' a s) : wpAny M A t Q' E s := wpAny_mono h hQ fun _ _ x => x
end L2
namespace L2
open PySem PySem.Spec PyProof.Rows
section
variable {X : Cx}
def tVar (i : Nat) : TE := fun σ H Q => ∃ v, σ[i]? = some (some v) ∧ Q v H
def tC (v : V) : TE := fun _ H Q => Q v H
theorem pe_var {i : Nat} {x : Str} {pos : Pos} (hN : X.N[i]? = some x) (hv : Vis X.env.scope x) (hd : (x == ("__debug__" : Str)) = false := by decide) (hcd : (x == ("__classdict__" : Str)) = false := by decide) : PE X (.Name x pos) (tVar i) := by
  intro pins s σ H Q I h
  obtain ⟨v, e, h⟩ := h
  obtain ⟨m, hn, hl⟩ := I.loc
  obtain ⟨u, r, l⟩ := hl i x v hN e hv
  have fin : EP X pins σ Q u s := ⟨v, H, I, r, h⟩
  rcases l with ⟨hk, hm⟩ | ⟨hk, c, hc, hcell⟩
  · exact wpAny_Name (wpAny_loadName_local I.ok.kind hk hn hm fin) hd
  · rcases hk with hk | hk
    · exact wpAny_Name (wpAny_loadName_cell I.ok.kind hk hc hcell fin) hd
    · exact wpAny_Name (wpAny_loadName_free I.ok.kind hk hc hcell fin hcd) hd
theorem pe_int {i j pos} : PE X (.Constant (.int i) j pos) (tC (.int i)) := fun _ _ _ H _ I h => wpAny_Constant_int ⟨.int i, H, I.tok _, ⟨_, rfl⟩, h⟩
theorem pe_bl {b j pos} : PE X (.Constant (.bool b) j pos) (tC (.bl b)) := fun _ _ _ H _ I h => Constant_bool ⟨.bl b, H, I, rfl, h⟩
theorem pe_non {j pos} : PE X (.Constant .none j pos) (tC .non) := fun _ _ _ H _ I h => Constant_none ⟨.non, H, I, rfl, h⟩
theorem pe_str {x j pos} : PE X (.Constant (.str x) j pos) (tC (.str x)) := fun _ _ _ H _ I h => Calls.Constant_str ⟨.str x, H, I.tok _, ⟨_, rfl⟩, h⟩
def Gl (X : Cx) (x : Str) : Prop := X.env.kindOf x = some .globalImplicit
theorem ld_glob {E : Value → Shared → Prop} {pins : List (Addr × Obj)} {s : Shared} {σ : St} {H : Hp} {x : Str} {u : Value} {pos : Pos} {Q : Value → Shared → Prop} (I : Inv X pins σ H s) (hg : Gl X x) (hm : X.mg x = some u) (h : Q u s)
    (hd : (x == ("__debug__" : Str)) = false := by decide) : wpAny (model X.prog X.w) X.A (eval (.Name x pos) X.env) Q E s :=
  Calls.Name_function_global I.ok.kind hg (Calls.loadGlobal_global (by rw [I.ok.glob]; exact I.mod.glob.keeps I.bk) hm h) hd
theorem ld_blt {E : Value → Shared → Prop} {pins : List (Addr × Obj)} {s : Shared} {σ : St} {H : Hp} {x : Str} {u : Value} {pos : Pos} {Q : Value → Shared → Prop} (I : Inv X pins σ H s) (hg : Gl X x) (hm : X.mg x = none) (hv : bootBuiltins x = some u) (h : Q u s)
    (hn : x ≠ "__name__" := by decide) (hd : (x == ("__debug__" : Str)) = false := by decide) : wpAny (model X.prog X.w) X.A (eval (.Name x pos) X.env) Q E s := by
  obtain ⟨mb, h1, h2⟩ := I.mod.blt
  exact Calls.Name_function_global I.ok.kind hg (Calls.loadGlobal_builtin (by rw [I.ok.glob]; exact I.mod.glob.keeps I.bk) hm (by rw [I.ok.blt]; exact h1.keeps I.bk) ((h2 x hn).trans hv) h) hd
theorem pe_bltn {x : Str} {v : V} {u : Value} {pos : Pos} (hg : Gl X x) (hm : X.mg x = none) (hv : bootBuiltins x = some u) (r : RelV v u) (hn : x ≠ "__name__" := by decide) (hd : (x == ("__debug__" : Str)) = false := by decide) : PE X (.Name x pos) (tC v) :=
  fun _ _ _ H _ I h => ld_blt I hg hm hv ⟨v, H, I, r, h⟩ hn hd
variable {a b : Expr} {ta tb : TE} {pos : Pos}
variable {tA tB' : TT} {rest : List Expr}
def tAnd (t u : TT) : TT := fun σ H Q => t σ H fun c H1 => if c = true then u σ H1 Q else Q false H1
def tOr (t u : TT) : TT := fun σ H Q => t σ H fun c H1 => if c = true then Q true H1 else u σ H1 Q
def tNot (t : TT) : TT := fun σ H Q => t σ H fun c H1 => Q (!c) H1
theorem pw_and1 (ha : PT X a tA) : PW X (.BoolOp .And [a] pos) tA := by
  intro wh pins s σ H Q I h
  refine isTrue_and (thn (ha pins s σ H Q I h) fun c s1 e => ?_)
  cases c with
  | true => exact isTrue_and_nil e
  | false => exact e
theorem pw_or1 (ha : PT X a tA) : PW X (.BoolOp .Or [a] pos) tA := by
  intro wh pins s σ H Q I h
  refine isTrue_or (thn (ha pins s σ H Q I h) fun c s1 e => ?_)
  cases c with
  | false => exact isTrue_or_nil e
  | true => exact e
theorem pw_and (ha : PT X a tA) (hb : PW X (.BoolOp .And (b :: rest) pos) tB') : PW X (.BoolOp .And (a :: b :: rest) pos) (tAnd tA tB') := by
  intro wh pins s σ H Q I h
  refine isTrue_and (thn (ha pins s σ H _ I h) fun c s1 ⟨H1, I1, q1⟩ => ?_)
  cases c with
  | true => exact hb wh pins s1 σ H1 Q I1 q1
  | false => exact ⟨H1, I1, q1⟩
theorem pw_or (ha : PT X a tA) (hb : PW X (.BoolOp .Or (b :: rest) pos) tB') : PW X (.BoolOp .Or (a :: b :: rest) pos) (tOr tA tB') := by
  intro wh pins s σ H Q I h
  refine isTrue_or (thn (ha pins s σ H _ I h) fun c s1 ⟨H1, I1, q1⟩ => ?_)
  cases c with
  | true => exact ⟨H1, I1, q1⟩
  | false => exact hb wh pins s1 σ H1 Q I1 q1
theorem pt_not (ha : PT X a tA) : PT X (.UnaryOp .Not a pos) (tNot tA) := by
  intro pins s σ H Q I h
  exact isTrue_not (ha pins s σ H (fun c H1 => Q (!c) H1) I h)
def tAndV (ta tb : TE) : TE := fun σ H Q => ta σ H fun x H1 => ∃ c, x = .bl c ∧ if c = true then tb σ H1 Q else Q (.bl false) H1
def tNotV (ta : TE) : TE := fun σ H Q => ta σ H fun x H1 => ∃ c, x = .bl c ∧ Q (.bl (!c)) H1
theorem pe_one {op} {t : TE} (h : PE X a t) : PE X (.BoolOp op [a] pos) t := fun pins s σ H Q I hw => BoolOp_one (h pins s σ H Q I hw)
theorem pe_and (ha : PE X a ta) (hb : PE X (.BoolOp .And (b :: rest) pos) tb) : PE X (.BoolOp .And (a :: b :: rest) pos) (tAndV ta tb) := by
  intro pins s σ H Q I h
  refine BoolOp_and (thn (ha pins s σ H _ I h) fun v s1 ⟨x, H1, I1, r1, q1⟩ => ?_)
  obtain ⟨c, rfl, q1⟩ := q1
  cases r1
  refine wpAny_truthy_bool ?_
  cases c with
  | true => exact hb pins s1 σ H1 Q I1 q1
  | false => exact ⟨.bl false, H1, I1, rfl, q1⟩
theorem pe_not (ha : PE X a ta) : PE X (.UnaryOp .Not a pos) (tNotV ta) := by
  intro pins s σ H Q I h
  refine UnaryOp_ (thn (ha pins s σ H _ I h) fun v s1 ⟨x, H1, I1, r1, q1⟩ => ?_)
  obtain ⟨c, rfl, q1⟩ := q1
  cases r1
  exact not_of (wpAny_truthy_bool ⟨.bl (!c), H1, I1, rfl, q1⟩)
def tIf (t : TT) (ta tb : TE) : TE := fun σ H Q => t σ H fun c H1 => if c = true then ta σ H1 Q else tb σ H1 Q
theorem pe_ifExp {c : Expr} (hc : PT X c tA) (ha : PE X a ta) (hb : PE X b tb) : PE X (.IfExp c a b pos) (tIf tA ta tb) := by
  intro pins s σ H Q I h
  refine wpAny_IfExp (thn (hc pins s σ H _ I h) fun d s1 ⟨H1, I1, q1⟩ => ?_)
  cases d with
  | true => exact ha pins s1 σ H1 Q I1 q1
  | false => exact hb pins s1 σ H1 Q I1 q1
end
end L2
namespace L2
open PySem PySem.Spec PyProof.Rows
def SqL (K : PySem.W.Frag) (H : Hp) (a : Addr) (xs : List V) : Prop :=
  Rd H a (.lst xs) ∨
    ∃ (o : Obj) (its : Array Value) (n : Nat), K.lookup a = some o ∧ o.cls = .type "list" ∧ o.dict = none ∧ o.data = .seq its n ∧ its.size ≤ sizeLine ∧ Vals xs its.toList
def SqT (K : PySem.W.Frag) (H : Hp) (a : Addr) (xs : List V) : Prop :=
  Rd H a (.tup xs) ∨
    ∃ (o : Obj) (its : Array Value) (n : Nat), K.lookup a = some o ∧ o.cls = .type "tuple" ∧ o.data = .seq its n ∧ its.size ≤ sizeLine ∧ Vals xs its.toList
def absV : Value → Option V
  | .none => some .non
  | .bool b => some (.bl b)
  | .int i _ => some (.int i)
  | .str x _ => some (.str x)
  | .bytes b _ => some (.byt b)
  | .float b _ => some (.flt b)
  | .ref a => some (.ref a)
  | .type n => some (.ty n)
  | _ => none
theorem RelV.abs {x : V} {u : Value} (r : RelV x u) : absV u = some x := by
  cases x with
  | non => cases r; rfl
  | bl _ => cases r; rfl
  | int _ => obtain ⟨t, rfl⟩ := r; rfl
  | str _ => obtain ⟨t, rfl⟩ := r; rfl
  | byt _ => obtain ⟨t, rfl⟩ := r; rfl
  | flt _ => obtain ⟨t, rfl⟩ := r; rfl
  | ref _ => cases r; rfl
  | ty _ => cases r; rfl
theorem RelV.inj {x y : V} {u : Value} (r : RelV x u) (q : RelV y u) : x = y := Option.some.inj (r.abs.symm.trans q.abs)
theorem Vals.inj : ∀ {xs ys : List V} {us : List Value}, Vals xs us → Vals ys us → xs = ys
  | _, _, _, .nil, .nil => rfl
  | _, _, _, .cons r t, .cons r' t' => by rw [r.inj r', Vals.inj t t']
section
variable {X : Cx} {pins : List (Addr × Obj)} {σ : St} {H : Hp} {s : Shared} {a : Addr} {xs ys : List V}
theorem SqL.of {K : PySem.W.Frag} (h : H a = some (.lst xs)) : SqL K H a xs := .inl (.inl h)
theorem SqT.of {K : PySem.W.Frag} (h : H a = some (.tup xs)) : SqT K H a xs := .inl (.inl h)
theorem Inv.list (I : Inv X pins σ H s) (h : SqL X.K H a xs) : ∃ its : List Value, Vals xs its ∧ PlainL s.heap a its.toArray ∧ xs.length ≤ sizeLine := by
  rcases h with h | ⟨o, its, n, hk, hc, hd, hs, hz, r⟩
  · obtain ⟨z, its, n, r, e⟩ := h.ok I.hok
    exact ⟨its, r, ⟨_, n, e, rfl, rfl, rfl⟩, z⟩
  · refine ⟨its.toList, r, ⟨o, n, I.kIn a o hk, hc, hd, by simpa using hs⟩, ?_⟩
    have e := r.length
    simp only [Array.length_toList] at e
    omega
theorem Inv.tuple (I : Inv X pins σ H s) (h : SqT X.K H a xs) : ∃ its : List Value, Vals xs its ∧ IsTup s.heap a its.toArray ∧ xs.length ≤ sizeLine := by
  rcases h with h | ⟨o, its, n, hk, hc, hs, hz, r⟩
  · obtain ⟨z, its, r, p⟩ := h.ok I.hok
    exact ⟨its, r, p, z⟩
  · refine ⟨its.toList, r, ⟨o, I.kIn a o hk, hc, n, by simpa using hs⟩, ?_⟩
    have e := r.length
    simp only [Array.length_toList] at e
    omega
theorem Inv.list_inj (I : Inv X pins σ H s) (h : SqL X.K H a xs) (h' : SqL X.K H a ys) : xs = ys := by
  obtain ⟨its, r, ⟨o, n, e, _, _, d⟩, _⟩ := I.list h
  obtain ⟨its', r', ⟨o', n', e', _, _, d'⟩, _⟩ := I.list h'
  rw [e] at e'; cases e'
  rw [d] at d'
  injection d' with d1 _
  have : its = its' := by simpa using congrArg Array.toList d1
  subst this
  exact r.inj r'
theorem Inv.tuple_inj (I : Inv X pins σ H s) (h : SqT X.K H a xs) (h' : SqT X.K H a ys) : xs = ys := by
  obtain ⟨its, r, ⟨o, e, _, n, d⟩, _⟩ := I.tuple h
  obtain ⟨its', r', ⟨o', e', _, n', d'⟩, _⟩ := I.tuple h'
  rw [e] at e'; cases e'
  rw [d] at d'
  injection d' with d1 _
  have : its = its' := by simpa using congrArg Array.toList d1
  subst this
  exact r.inj r'
end
abbrev Cx.wish (X : Cx) (E : Value → Shared → Prop) : Cx := { X with xe := E }
abbrev Cx.nox (X : Cx) : Cx := X.wish fun _ _ => False
theorem Cx.Ok.wish {X : Cx} (ok : X.Ok) (E : Value → Shared → Prop) : (X.wish E).Ok :=
  ⟨ok.mod, ok.kind, ok.glob, ok.blt, ok.above, ok.inj, ok.has, ok.cab, ok.hd, ok.frames, ok.stk, ok.exf, ok.bs, ok.bsz, ok.noex, ok.exfs, ok.funs, ok.frf⟩
theorem Cx.Ok.unwish {X : Cx} {E : Value → Shared → Prop} (ok : (X.wish E).Ok) : X.Ok :=
  ⟨ok.mod, ok.kind, ok.glob, ok.blt, ok.above, ok.inj, ok.has, ok.cab, ok.hd, ok.frames, ok.stk, ok.exf, ok.bs, ok.bsz, ok.noex, ok.exfs, ok.funs, ok.frf⟩
section
variable {X : Cx} {pins : List (Addr × Obj)} {σ : St} {H : Hp} {s : Shared} {E : Value → Shared → Prop}
theorem Inv.wish (I : Inv X pins σ H s) (E : Value → Shared → Prop) : Inv (X.wish E) pins σ H s := ⟨I.ok.wish E, I.os, I.bare, I.base, I.loc, I.cell, I.free, I.freeC, I.pin, I.hok, I.len⟩
theorem Inv.unwish (I : Inv (X.wish E) pins σ H s) : Inv X pins σ H s := ⟨I.ok.unwish, I.os, I.bare, I.base, I.loc, I.cell, I.free, I.freeC, I.pin, I.hok, I.len⟩
theorem SP.unwish {D : Ends} {f : Flow} {s' : Shared} (h : SP (X.wish E) pins D f s') : SP X pins D f s' := by
  cases f with
  | next => obtain ⟨σ', H', I, q⟩ := h; exact ⟨σ', H', I.unwish, q⟩
  | brk => obtain ⟨σ', H', I, q⟩ := h; exact ⟨σ', H', I.unwish, q⟩
  | cont => obtain ⟨σ', H', I, q⟩ := h; exact ⟨σ', H', I.unwish, q⟩
  | ret u => obtain ⟨v, σ', H', I, r, q⟩ := h; exact ⟨v, σ', H', I.unwish, r, q⟩
theorem PSs.nox {st : List Stmt} {t : TS} (h : PSs X.nox st t) : PSs X st t := fun pins s σ H D I hw =>
  wpAny_mono (h pins s σ H D (I.wish _) hw) (fun _ _ q => q.unwish) fun _ _ z => False.elim z
end
section
variable {X : Cx} {st : Stmt} {rest : List Stmt} {t u : TS} {e : Expr} {te : TE} {pos : Pos}
def tNext : TS := fun D σ H => D.nx σ H
def tSeq (t u : TS) : TS := fun D σ H => t { D with nx := u D } σ H
theorem pss_nil : PSs X [] tNext := fun _ _ σ H _ I h => wpAny_execs_nil ⟨σ, H, I, h⟩
theorem pss_cons (h1 : PS X st t) (h2 : PSs X rest u) : PSs X (st :: rest) (tSeq t u) := by
  intro pins s σ H D I h
  refine wpAny_execs_cons (thn (h1 pins s σ H { D with nx := u D } I h) fun f s1 q => ?_)
  cases f with
  | next =>
    obtain ⟨σ', H', I', q⟩ := q
    exact h2 pins s1 σ' H' D I' q
  | ret v => exact q
  | brk => exact q
  | cont => exact q
theorem pss_one (h1 : PS X st t) : PSs X [st] t := by
  intro pins s σ H D I h
  refine wpAny_execs_cons (thn (h1 pins s σ H D I h) fun f s1 q => ?_)
  cases f with
  | next => exact wpAny_execs_nil q
  | ret v => exact q
  | brk => exact q
  | cont => exact q
theorem Inv.quiet {pins : List (Addr × Obj)} {σ : St} {H : Hp} {s : Shared} (I : Inv X pins σ H s) : interactive X.env = false := by simp [interactive, I.ok.kind]
def tDrop (te : TE) : TS := fun D σ H => te σ H fun _ H1 => D.nx σ H1
theorem ps_expr (he : PE X e te) (hs : swapsWith e none pos.line X.env = pure false := by rfl) : PS X (.Expr e pos) (tDrop te) := by
  intro pins s σ H D I h
  exact wpAny_Expr_any (thn (he pins s σ H _ I h) fun v s1 ⟨x, H1, I1, r1, q1⟩ => ⟨σ, H1, I1, q1⟩) I.quiet hs
def tRet (te : TE) : TS := fun D σ H => te σ H D.rt
theorem ps_ret (he : PE X e te) : PS X (.Return (some e) pos) (tRet te) := by
  intro pins s σ H D I h
  exact wpAny_Return_some (thn (he pins s σ H _ I h) fun v s1 ⟨x, H1, I1, r1, q1⟩ => ⟨x, σ, H1, I1, r1, q1⟩)
def tIfS (c : TT) (t u : TS) : TS := fun D σ H => c σ H fun b H1 => if b = true then t D σ H1 else u D σ H1
theorem ps_if {c : Expr} {a b : List Stmt} {tc : TT} (hc : PT X c tc) (ha : PSs X a t) (hb : PSs X b u) : PS X (.If c a b pos) (tIfS tc t u) := by
  intro pins s σ H D I h
  refine wpAny_If (thn (hc pins s σ H _ I h) fun d s1 ⟨H1, I1, q1⟩ => ?_)
  cases d with
  | true => exact ha pins s1 σ H1 D I1 q1
  | false => exact hb pins s1 σ H1 D I1 q1
end
abbrev TG := V → St → Hp → (St → Hp → Prop) → Prop
abbrev TGs := List V → St → Hp → (St → Hp → Prop) → Prop
def PG (X : Cx) (target : Expr) (t : TG) : Prop :=
  ∀ (pins : List (Addr × Obj)) (s : Shared) (σ : St) (H : Hp) (v : V) (u : Value) (Q : St → Hp → Prop), Inv X pins σ H s → RelV v u → t v σ H Q →
    wpAny (model X.prog X.w) X.A (assign target X.env u) (fun _ s' => ∃ σ' H', Inv X pins σ' H' s' ∧ Q σ' H') X.xe s
def PGs (X : Cx) (ts : List Expr) (t : TGs) : Prop :=
  ∀ (pins : List (Addr × Obj)) (s : Shared) (σ : St) (H : Hp) (vs : List V) (us : List Value) (Q : St → Hp → Prop), Inv X pins σ H s → Vals vs us → t vs σ H Q →
    wpAny (model X.prog X.w) X.A (assignInOrder ((assignEach ts X.env).map (·.2)) us) (fun _ s' => ∃ σ' H', Inv X pins σ' H' s' ∧ Q σ' H') X.xe s
abbrev TSet := V → V → V → Hp → (Hp → Prop) → Prop
def PSet (X : Cx) (t : TSet) : Prop :=
  ∀ (pins : List (Addr × Obj)) (s : Shared) (σ : St) (H : Hp) (o i v : V) (ov iv u : Value) (Q : Hp → Prop), Inv X pins σ H s → RelV o ov → RelV i iv → RelV v u → t o i v H Q →
    wpAny (model X.prog X.w) X.A (setItem ov iv u) (fun _ s' => ∃ H', Inv X pins σ H' s' ∧ Q H') X.xe s
section
variable {X : Cx} {pos : Pos}
def gName (i : Nat) : TG := fun v σ H Q => Q (σ.set i (some v)) H
theorem pg_name {i : Nat} {x : Str} (hN : X.N.Nodup) (hi : X.N[i]? = some x) (hx : Loc X.env.scope x) (hf : X.fn x = true ∨ X.env.scope.names.lookup x = some .local := by first | exact .inl rfl | exact .inr rfl | assumption) : PG X (.Name x pos) (gName i) := by
  intro pins s σ H v u Q I r h
  exact wpAny_assign_Name (store_ok I hN hi hx r (fun s' I' => ⟨_, H, I', h⟩) hf)
def gNil : TGs := fun vs σ H Q => vs = [] ∧ Q σ H
def gCons (t : TG) (u : TGs) : TGs := fun vs σ H Q => ∃ v r, vs = v :: r ∧ t v σ H fun σ' H' => u r σ' H' Q
theorem pgs_nil : PGs X [] gNil := by
  intro pins s σ H vs us Q I r h
  obtain ⟨e, h⟩ := h
  subst e
  cases r
  exact assignInOrder_nil ⟨σ, H, I, h⟩
theorem pgs_cons {e : Expr} {es : List Expr} {t : TG} {u : TGs} (h1 : PG X e t) (h2 : PGs X es u)
    (hs : (assignEach (e :: es) X.env).map (·.2) = assign e X.env :: (assignEach es X.env).map (·.2) := by rfl) : PGs X (e :: es) (gCons t u) := by
  intro pins s σ H vs us Q I r h
  obtain ⟨v, vr, e1, h⟩ := h
  subst e1
  cases r with
  | cons r rr =>
    rw [hs]
    refine assignInOrder_cons (thn (h1 pins s σ H _ _ _ I r h) fun _ s1 ⟨σ1, H1, I1, q1⟩ => ?_)
    exact h2 pins s1 σ1 H1 _ _ Q I1 rr q1
def gTup (K : PySem.W.Frag) (n : Nat) (t : TGs) : TG := fun v σ H Q => ∃ a xs, v = .ref a ∧ SqT K H a xs ∧ xs.length = n ∧ t xs σ H Q
theorem pg_tup {es : List Expr} {k : Nat} {t : TGs} {n : Nat} (hc : X.calm = true) (h : PGs X es t)
    (hn : (assignEach es X.env).length = n := by rfl) (hst : (assignEach es X.env).findIdx? (·.1) = none := by rfl) : PG X (.Tuple es k pos) (gTup X.K n t) := by
  intro pins s σ H v u Q I r hw
  obtain ⟨a, xs, e1, hq, hl, hw⟩ := hw
  subst e1
  cases r
  obtain ⟨its, rv, ht, hz⟩ := I.tuple hq
  refine assign_Tuple_tuple (I.ok.hd hc) ht (by simp [hn, ← hl, rv.length]) hst fun h' hx => ?_
  have I1 : Inv X pins σ H { s with heap := h' } := I.kept (t' := s.toks) fun b o e => hx b o (Nat.ne_of_lt (Heap.lt_size e)) e
  exact h pins _ σ H xs _ Q I1 (by simpa using rv) hw
def gSub (to ti : TE) (t : TSet) : TG := fun v σ H Q => to σ H fun o H1 => ti σ H1 fun i H2 => t o i v H2 fun H3 => Q σ H3
theorem pg_sub {o i : Expr} {to ti : TE} {t : TSet} (ho : PE X o to) (hi : PE X i ti) (hs : PSet X t)
    (ha : ∀ v, assign (.Subscript o i pos) X.env v = (do
      let ov ← holding [v] (eval o X.env)
      let iv ← holding [v, ov] (eval i X.env)
      standAt pos
      holding [v, ov, iv] (setItem ov iv v)
      release [v, ov, iv] []) := by intro _; rfl) : PG X (.Subscript o i pos) (gSub to ti t) := by
  intro pins s σ H v u Q I r h
  rw [ha]
  refine wpAny_bind (wpAny_holding (thn (ho pins s σ H _ I h) fun ov s1 ⟨x, H1, I1, r1, q1⟩ => ?_))
  refine wpAny_bind (wpAny_holding (thn (hi pins s1 σ H1 _ I1 q1) fun iv s2 ⟨y, H2, I2, r2, q2⟩ => ?_))
  refine wpAny_bind (wpAny_standAt (wpAny_bind (wpAny_holding (thn (hs pins s2 σ H2 x y v ov iv u _ I2 r1 r2 r q2) fun _ s3 ⟨H3, I3, q3⟩ => ?_))))
  exact wpAny_release ⟨σ, H3, I3, q3⟩
def tAsg (te : TE) (g : TG) : TS := fun D σ H => te σ H fun x H1 => g x σ H1 D.nx
theorem ps_asg {tg e : Expr} {te : TE} {g : TG} (he : PE X e te) (hg : PG X tg g) (hs : swapsWithSole [tg] e pos.line X.env = pure false := by rfl) (hw : swappedStores [tg] e X.env = pure none := by rfl)
    (h1 : (assignEach [tg] X.env).map (·.2) = [assign tg X.env] := by rfl) : PS X (.Assign [tg] e pos) (tAsg te g) := by
  intro pins s σ H D I h
  refine wpAny_Assign_stores (thn (he pins s σ H _ I h) fun v s1 ⟨x, H1, I1, r1, q1⟩ => ?_) hs hw
  rw [h1]
  exact thn (hg pins s1 σ H1 x v _ I1 r1 q1) fun _ s2 q => q
theorem ps_set {i : Nat} {x : Str} {e : Expr} {te : TE} {pos' : Pos} (hN : X.N.Nodup) (hi : X.N[i]? = some x) (hx : Loc X.env.scope x) (he : PE X e te) (hs : swapsWith e (some (.Name x pos')) pos.line X.env = pure false := by rfl) (hf : X.fn x = true ∨ X.env.scope.names.lookup x = some .local := by first | exact .inl rfl | exact .inr rfl | assumption) :
    PS X (.Assign [.Name x pos'] e pos) (tAsg te (gName i)) := by
  intro pins s σ H D I h
  refine wpAny_Assign_Name (thn (he pins s σ H _ I h) fun v s1 ⟨y, H1, I1, r1, q1⟩ => ?_) hs
  exact store_ok I1 hN hi hx r1 (fun s2 I2 => ⟨_, H1, I2, q1⟩) hf
end
section
variable {X : Cx} {pos : Pos}
def tWhile (c : TT) (tb : TS) : TS := fun D σ H => ∃ W : Nat → St → Hp → Prop, (∃ m, W m σ H) ∧ ∀ m σ H, W m σ H →
  c σ H fun b H1 => if b = true then ∃ N : St → Hp → Prop, (∀ σ' H', N σ' H' → ∃ m', m' < m ∧ W m' σ' H') ∧ tb { D with nx := N, ct := N, bk := D.nx } σ H1 else D.nx σ H1
theorem ps_while {c : Expr} {body : List Stmt} {tc : TT} {tb : TS} (hp : PassesOwn (model X.prog X.w) X.A X.env X.xe) (hc : PT X c tc) (hb : PSs X body tb) : PS X (.While c body [] pos) (tWhile tc tb) := by
  intro pins s σ H D I h
  obtain ⟨W, ⟨m0, w0⟩, turn⟩ := h
  refine wpAny_While (codeAny_whileLoop (fun n s' => ∃ σ' H', Inv X pins σ' H' s' ∧ W n σ' H') ?_ m0 ⟨σ, H, I, w0⟩)
  rintro n s1 ⟨σ1, H1, I1, w1⟩
  refine wpAny_passesOwn hp (thn (hc pins s1 σ1 H1 _ I1 (turn n σ1 H1 w1)) fun b s2 ⟨H2, I2, q2⟩ => ?_)
  cases b with
  | true =>
    obtain ⟨N, hN, q2⟩ := q2
    rw [if_pos rfl]
    refine wpAny_passesOwn hp (thn (hb pins s2 σ1 H2 _ I2 q2) fun f s3 q3 => ?_)
    cases f with
    | next =>
      obtain ⟨σ3, H3, I3, n3⟩ := q3
      obtain ⟨m', hm, w3⟩ := hN σ3 H3 n3
      exact ⟨m', hm, σ3, H3, I3, w3⟩
    | cont =>
      obtain ⟨σ3, H3, I3, n3⟩ := q3
      obtain ⟨m', hm, w3⟩ := hN σ3 H3 n3
      exact ⟨m', hm, σ3, H3, I3, w3⟩
    | brk => exact q3
    | ret v => exact q3
  | false =>
    rw [if_neg Bool.false_ne_true]
    exact wpAny_execs_nil ⟨σ1, H2, I2, q2⟩
end
structure It where
  go : Nat → Hp → Prop
  yld : Nat → Hp → V → Hp → Prop
  stop : Nat → Hp → Prop
def FpOk (X : Cx) (pins : List (Addr × Obj)) (H : Hp) (b : Addr) : Prop :=
  H b = none ∧ b ≠ X.env.locals ∧ b ∉ X.fs ∧ (b ∈ X.ex ∨ X.s₀.heap.objs.size ≤ b) ∧ (∀ x c, X.env.cells.lookup x = some c → c ≠ b) ∧ ∀ p ∈ X.pn ++ pins, p.1 ≠ b
theorem Inv.fpOk {X : Cx} {pins : List (Addr × Obj)} {σ : St} {H H' : Hp} {s : Shared} {b : Addr} (I : Inv X pins σ H s) (hb : s.heap.objs.size ≤ b) (hn : H' b = none) : FpOk X pins H' b := by
  refine ⟨hn, Nat.ne_of_gt (Nat.lt_of_lt_of_le I.lt hb), I.nofs hb, .inr (Nat.le_trans I.sz hb), fun x c e z => ?_, fun p hp z => ?_⟩
  · obtain ⟨v, q⟩ := I.cell x c e
    exact absurd (Nat.lt_of_lt_of_le q.lt (by rw [z]; exact hb)) (Nat.lt_irrefl _)
  · exact absurd (Nat.lt_of_lt_of_le (Heap.lt_size (I.pin p hp).1) (by rw [z]; exact hb)) (Nat.lt_irrefl _)
structure Turn (P : Program) (w : World) (K : PySem.W.Frag) (tg : Expr) (J : It) (fp : List Addr) (it : Addr) (tn : Nat → Heap → Prop) : Prop where
  mem : it ∈ fp
  obj : ∀ i h, tn i h → ∀ b ∈ fp, ∃ o, h.get? b = some o ∧ ∀ v, o.data ≠ .cell v
  keep : ∀ i h h', tn i h → (∀ b ∈ fp, ∀ o, h.get? b = some o → h'.get? b = some o) → tn i h'
  item : ∀ (X : Cx), X.prog = P → X.w = w → X.K = K → X.calm = true → ∀ (i : Nat) (pins : List (Addr × Obj)) (s : Shared) (σ : St) (H : Hp) (E : Value → Shared → Prop), Inv X pins σ H s → (∀ b ∈ fp, FpOk X pins H b) → tn i s.heap → J.go i H →
    wpAny (model P w) X.A (pyNext (.ref it)) (fun r s1 => ∃ u, r = some u ∧
      wpAny (model P w) X.A (letOwnedTupleGo tg (.ref it) u) (fun _ s2 => ∃ x H', Inv X pins σ H' s2 ∧ RelV x u ∧ J.yld i H x H' ∧ tn (i + 1) s2.heap ∧ ∀ b ∈ fp, H' b = none) E s1) E s
  done : ∀ (X : Cx), X.prog = P → X.w = w → X.K = K → X.calm = true → ∀ (i : Nat) (pins : List (Addr × Obj)) (s : Shared) (σ : St) (H : Hp) (E : Value → Shared → Prop), Inv X pins σ H s → (∀ b ∈ fp, FpOk X pins H b) → tn i s.heap → J.stop i H →
    wpAny (model P w) X.A (pyNext (.ref it)) (fun r s1 => r = none ∧ Inv X pins σ H s1) E s
  self : ∀ (A : Around) (i : Nat) (s : Shared) (Q : Value → Shared → Prop) (E : Value → Shared → Prop), tn i s.heap → Q (.ref it) s → wpAny (model P w) A (pyIter (.ref it)) Q E s
abbrev TI := St → Hp → (It → Hp → Prop) → Prop
def PIE (X : Cx) (pins : List (Addr × Obj)) (σ : St) (tg : Expr) (R : It → Hp → Prop) (itv : Value) (s2 : Shared) : Prop :=
  ∃ (it : Addr) (fp : List Addr) (tn : Nat → Heap → Prop) (J : It) (H' : Hp), itv = .ref it ∧ Inv X pins σ H' s2 ∧ Turn X.prog X.w X.K tg J fp it tn ∧ tn 0 s2.heap ∧ (∀ b ∈ fp, FpOk X pins H' b) ∧ R J H'
def PI (X : Cx) (tg iter : Expr) (wi : TI) : Prop :=
  ∀ (pins : List (Addr × Obj)) (s : Shared) (σ : St) (H : Hp) (R : It → Hp → Prop), Inv X pins σ H s → wi σ H R →
    wpAny (model X.prog X.w) X.A (eval iter X.env) (fun v s1 => wpAny (model X.prog X.w) X.A (pyIter v) (PIE X pins σ tg R) X.xe s1) X.xe s
theorem go_of {M : Model} {A : Around} {E : Value → Shared → Prop} {s : Shared} {tg : Expr} {it : Addr} {u : Value} {o : Obj} {n : String} {vs : Array Value} {Q : Unit → Shared → Prop} (ho : s.heap.get? it = some o) (hc : o.cls = .type n) (hd : o.data = .fields vs)
    (hn : ["enumerate", "zip", "dict_itemiterator", "dict_reverseitemiterator", "odict_iterator", "itertools.zip_longest", "itertools.pairwise"].contains n = false) (hQ : Q () s) : wpAny M A (letOwnedTupleGo tg (.ref it) u) Q E s := by
  unfold letOwnedTupleGo
  cases tg <;> first
    | exact wpAny_pure hQ
    | (cases u <;> first
        | exact wpAny_pure hQ
        | (refine wpAny_bind (wpAny_load ho ?_)
           rw [hc, hd]
           show wpAny M A (if (["enumerate", "zip", "dict_itemiterator", "dict_reverseitemiterator", "odict_iterator", "itertools.zip_longest", "itertools.pairwise"].contains n && vs[0]? == some (rawInt _)) = true then _ else _) Q E s
           rw [if_neg (by intro h; rw [hn, Bool.false_and] at h; cases h)]
           exact wpAny_pure hQ))
def Itl (K : PySem.W.Frag) (a : Addr) : It :=
  ⟨fun i H => ∃ xs x, SqL K H a xs ∧ xs[i]? = some x, fun i H x H' => H' = H ∧ ∀ xs, SqL K H a xs → xs[i]? = some x, fun i H => ∃ xs, SqL K H a xs ∧ xs.length ≤ i⟩
def Itt (K : PySem.W.Frag) (a : Addr) : It :=
  ⟨fun i H => ∃ xs x, SqT K H a xs ∧ xs[i]? = some x, fun i H x H' => H' = H ∧ ∀ xs, SqT K H a xs → xs[i]? = some x, fun i H => ∃ xs, SqT K H a xs ∧ xs.length ≤ i⟩
def Itr (lo : Int) (n : Nat) : It := ⟨fun i _ => i < n, fun i H x H' => H' = H ∧ x = .int (lo + i), fun i _ => n ≤ i⟩
theorem turn_list {P : Program} {w : World} {K : PySem.W.Frag} {tg : Expr} (a it : Addr) : Turn P w K tg (Itl K a) [it] it (fun i h => h.IsListIter it a i) where
  mem := by simp
  obj := fun i h st b hb => by
    have e : b = it := by simpa using hb
    subst e
    obtain ⟨o, e, c, d⟩ := st
    exact ⟨o, e, fun v z => by rw [d] at z; cases z⟩
  keep := fun i h h' st k => st.at fun o e => k it (by simp) o e
  item := by
    intro X hP hw hK hc i pins s σ H E I hf st hg
    subst hP hw hK
    obtain ⟨xs, x, hq, hx⟩ := hg
    obtain ⟨its, rv, p, hz⟩ := I.list hq
    obtain ⟨u, hu, ru⟩ := rv.get hx
    obtain ⟨f0, f1, f2, f3, f4, f5⟩ := hf it (by simp)
    refine wpAny_pyNext_list_item st p.isList (x := u) (by simpa using hu) fun h' st' sb => ?_
    have I1 : Inv X pins σ H { s with heap := h' } := I.turned (t' := s.toks) (fun b o hb e => (sb.2 b hb).trans e) f0 f1 f3 f4 f5
    obtain ⟨o, e, c, d⟩ := id st'
    exact ⟨u, rfl, go_of (s := { s with heap := h' }) e c d (by decide) ⟨x, H, I1, ru, ⟨rfl, fun ys hy => by rw [I.list_inj hy hq]; exact hx⟩, st', fun b hb => (hf b hb).1⟩⟩
  done := by
    intro X hP hw hK hc i pins s σ H E I hf st hg
    subst hP hw hK
    obtain ⟨xs, hq, hx⟩ := hg
    obtain ⟨its, rv, p, hz⟩ := I.list hq
    obtain ⟨f0, f1, f2, f3, f4, f5⟩ := hf it (by simp)
    have hl := rv.length
    exact wpAny_pyNext_list_end (I.ok.hd hc) st p.isList (by simp; omega) fun h' eb => ⟨rfl, I.turned (t' := s.toks) (fun b o hb e => eb b o hb e) f0 f1 f3 f4 f5⟩
  self := fun _ _ _ _ _ st h => wpAny_pyIter_listiter st h
theorem turn_tuple {P : Program} {w : World} {K : PySem.W.Frag} {tg : Expr} (a it : Addr) : Turn P w K tg (Itt K a) [it] it (fun i h => h.IsTupleIter it a i) where
  mem := by simp
  obj := fun i h st b hb => by
    have e : b = it := by simpa using hb
    subst e
    obtain ⟨o, e, c, d⟩ := st
    exact ⟨o, e, fun v z => by rw [d] at z; cases z⟩
  keep := fun i h h' st k => st.at fun o e => k it (by simp) o e
  item := by
    intro X hP hw hK hc i pins s σ H E I hf st hg
    subst hP hw hK
    obtain ⟨xs, x, hq, hx⟩ := hg
    obtain ⟨its, rv, p, hz⟩ := I.tuple hq
    obtain ⟨u, hu, ru⟩ := rv.get hx
    obtain ⟨f0, f1, f2, f3, f4, f5⟩ := hf it (by simp)
    refine wpAny_pyNext_tuple_item st (show s.heap.IsTuple a its.toArray from p) (x := u) (by simpa using hu) fun h' st' sb => ?_
    have I1 : Inv X pins σ H { s with heap := h' } := I.turned (t' := s.toks) (fun b o hb e => (sb.2 b hb).trans e) f0 f1 f3 f4 f5
    obtain ⟨o, e, c, d⟩ := id st'
    exact ⟨u, rfl, go_of (s := { s with heap := h' }) e c d (by decide) ⟨x, H, I1, ru, ⟨rfl, fun ys hy => by rw [I.tuple_inj hy hq]; exact hx⟩, st', fun b hb => (hf b hb).1⟩⟩
  done := by
    intro X hP hw hK hc i pins s σ H E I hf st hg
    subst hP hw hK
    obtain ⟨xs, hq, hx⟩ := hg
    obtain ⟨its, rv, p, hz⟩ := I.tuple hq
    obtain ⟨f0, f1, f2, f3, f4, f5⟩ := hf it (by simp)
    have hl := rv.length
    exact wpAny_pyNext_tuple_end (I.ok.hd hc) st (show s.heap.IsTuple a its.toArray from p) (by simp; omega) fun h' eb => ⟨rfl, I.turned (t' := s.toks) (fun b o hb e => eb b o hb e) f0 f1 f3 f4 f5⟩
  self := fun _ _ _ _ _ st h => wpAny_pyIter_tupleiter st h
theorem turn_range {P : Program} {w : World} {K : PySem.W.Frag} {tg : Expr} (it : Addr) (lo : Int) (n : Nat) : Turn P w K tg (Itr lo n) [it] it (fun i h => IsRangeIter h it (lo + (i : Nat) * 1) ((n : Int) - (i : Nat)) 1) where
  mem := by simp
  obj := fun i h st b hb => by
    have e : b = it := by simpa using hb
    subst e
    exact ⟨_, st, fun v z => by
      have z' : Data.fields _ = Data.cell v := z
      cases z'⟩
  keep := fun i h h' st k => k it (by simp) _ st
  item := by
    intro X hP hw hK hc i pins s σ H E I hf st hg
    subst hP hw hK
    obtain ⟨f0, f1, f2, f3, f4, f5⟩ := hf it (by simp)
    have W := Walks.range (prog := X.prog) (w := X.w) (I.ok.hd hc) it lo 1 n
    refine W.item i s _ _ hg st fun v h' tk hv st' kk => ?_
    obtain ⟨t, rfl⟩ := hv
    have I1 : Inv X pins σ H { s with heap := h', toks := tk } := I.turned (fun b o hb e => kk b o (by simpa using hb) e) f0 f1 f3 f4 f5
    refine ⟨_, rfl, go_of (s := { s with heap := h', toks := tk }) (n := "range_iterator") st' rfl rfl (by decide) ⟨.int (lo + i), H, I1, ⟨t, ?_⟩, ⟨rfl, rfl⟩, st', fun b hb => (hf b hb).1⟩⟩
    rw [Int.mul_one]
  done := by
    intro X hP hw hK hc i pins s σ H E I hf st hg
    subst hP hw hK
    obtain ⟨f0, f1, f2, f3, f4, f5⟩ := hf it (by simp)
    exact wpAny_pyNext_range_end (I.ok.hd hc) st (by have : n ≤ i := hg; omega) fun h' eb => ⟨rfl, I.turned (t' := s.toks) (fun b o hb e => eb b o hb e) f0 f1 f3 f4 f5⟩
  self := fun _ _ _ _ _ st h => wpAny_pyIter_rangeiter st h
end L2
namespace L2
open PySem PySem.Spec PyProof.Rows
section
variable {X : Cx} {tg : Expr}
def iList (K : PySem.W.Frag) (tl : TE) : TI := fun σ H R => tl σ H fun x H1 => ∃ a, x = .ref a ∧ (∃ xs, SqL K H1 a xs) ∧ R (Itl K a) H1
theorem pi_list {l : Expr} {tl : TE} (hl : PE X l tl) : PI X tg l (iList X.K tl) := by
  intro pins s σ H R I h
  refine thn (hl pins s σ H _ I h) fun v s1 ⟨x, H1, I1, r1, q1⟩ => ?_
  obtain ⟨a, e, ⟨xs, hq⟩, q⟩ := q1
  subst e
  cases r1
  obtain ⟨its, rv, p, hz⟩ := I1.list hq
  refine wpAny_pyIter_list p.isList ?_
  refine ⟨s1.heap.objs.size, [s1.heap.objs.size], _, _, H1, rfl, I1.kept (t' := s1.toks) fun b o e => Heap.get?_push_of_some _ e, turn_list a _, ⟨_, Heap.get?_push_size _ rfl, rfl, rfl⟩, fun b hb => ?_, q⟩
  have e : b = s1.heap.objs.size := by simpa using hb
  subst e
  exact I1.fpOk (Nat.le_refl _) (I1.hok.fresh (Nat.le_refl _))
theorem range_it {pins : List (Addr × Obj)} {σ : St} {H : Hp} {s : Shared} {R : It → Hp → Prop} {E : Value → Shared → Prop} {lo hi : Int} {t u v : Tok} {tk : Nat} (I : Inv X pins σ H s) (h1 : -(2 ^ 62) ≤ lo) (h2 : lo < 2 ^ 62) (h3 : -(2 ^ 62) ≤ hi) (h4 : hi < 2 ^ 62)
    (q : R (Itr lo (hi - lo).toNat) H) : wpAny (model X.prog X.w) X.A (pyIter (.ref s.heap.objs.size)) (PIE X pins σ tg R) E { s with heap := s.heap.push { cls := .type "range", data := .fields #[.int lo t, .int hi u, .int 1 v] }, toks := tk } := by
  refine wpAny_pyIter_range (IsRange.new ..) (small_one h1 h2 h3 h4) ?_
  have I1 : Inv X pins σ H { s with heap := s.heap.push { cls := .type "range", data := .fields #[.int lo t, .int hi u, .int 1 v] }, toks := tk } := I.kept fun b o e => Heap.get?_push_of_some _ e
  refine ⟨(s.heap.push { cls := .type "range", data := .fields #[.int lo t, .int hi u, .int 1 v] }).objs.size, [(s.heap.push { cls := .type "range", data := .fields #[.int lo t, .int hi u, .int 1 v] }).objs.size], _, _, H, rfl,
    I1.kept (t' := tk) fun b o e => Heap.get?_push_of_some _ e, turn_range _ lo (hi - lo).toNat, ?_, fun b hb => ?_, q⟩
  · have e1 : lo + ((0 : Nat) : Int) * 1 = lo := by simp
    have e2 : (((hi - lo).toNat : Nat) : Int) - ((0 : Nat) : Int) = Builtin.Range.rangeSize lo hi 1 := by rw [rangeSize_one]; split <;> omega
    show IsRangeIter _ _ (lo + ((0 : Nat) : Int) * 1) ((((hi - lo).toNat : Nat) : Int) - ((0 : Nat) : Int)) 1
    rw [e1, e2]
    exact Heap.get?_push_size _ rfl
  · have e : b = (s.heap.push { cls := .type "range", data := .fields #[.int lo t, .int hi u, .int 1 v] }).objs.size := by simpa using hb
    subst e
    exact I1.fpOk (Nat.le_refl _) (I1.hok.fresh (Nat.le_refl _))
def iRng1 (ta : TA) : TI := fun σ H R => ta σ H fun vs H1 => ∃ j : Int, vs = [.int j] ∧ -(2 ^ 62) ≤ j ∧ j < 2 ^ 62 ∧ R (Itr 0 j.toNat) H1
theorem pi_range1 {a : Expr} {ta : TA} {p pos : Pos} (hg : Gl X "range") (hm : X.mg "range" = none) (ha : PA X [a] ta) (hs : starEach [a] X.env = [(false, eval a X.env)] := by rfl) : PI X tg (.Call (.Name "range" p) [a] [] pos) (iRng1 ta) := by
  intro pins s σ H R I h
  refine Call_ (ld_blt I hg hm boot_range (PyProof.Rows.callWith_type1 (thn (ha pos pins s σ H _ I h) fun us s1 ⟨vs, H1, I1, r1, q1⟩ => ?_) hs rfl))
  obtain ⟨j, e, q1, q2, q⟩ := q1
  subst e
  cases r1 with
  | cons r rr =>
    cases rr
    obtain ⟨t, rfl⟩ := r
    exact call_range_1 (range_it I1 (by omega) (by omega) q1 q2 (by simpa using q))
def tFor (wi : TI) (g : TG) (tb : TS) : TS := fun D σ H => wi σ H fun J H1 => ∃ W : Nat → Nat → St → Hp → Prop, (∃ m, W 0 m σ H1) ∧ ∀ i m σ H, W i m σ H →
  (J.stop i H ∧ D.nx σ H) ∨ (J.go i H ∧ ∃ N : St → Hp → Prop, (∀ σ' H', N σ' H' → ∃ m', m' < m ∧ W (i + 1) m' σ' H') ∧ ∀ x H', J.yld i H x H' → g x σ H' fun σ2 H2 => tb { D with nx := N, ct := N, bk := D.nx } σ2 H2)
def pinsAt (fp : List Addr) (h : Heap) : List (Addr × Obj) := fp.filterMap fun b => (h.get? b).map fun o => (b, o)
theorem mem_pinsAt {fp : List Addr} {h : Heap} {b : Addr} {o : Obj} (hb : b ∈ fp) (e : h.get? b = some o) : (b, o) ∈ pinsAt fp h := List.mem_filterMap.mpr ⟨b, hb, by rw [e]; rfl⟩
theorem of_pinsAt {fp : List Addr} {h : Heap} {p : Addr × Obj} (hp : p ∈ pinsAt fp h) : p.1 ∈ fp ∧ h.get? p.1 = some p.2 := by
  obtain ⟨b, hb, e⟩ := List.mem_filterMap.mp hp
  cases q : h.get? b with
  | none => rw [q] at e; cases e
  | some o =>
    rw [q] at e
    have e' : (b, o) = p := Option.some.inj e
    subst e'
    exact ⟨hb, q⟩
theorem Inv.pinned {pins : List (Addr × Obj)} {σ : St} {H : Hp} {s : Shared} {fp : List Addr} (I : Inv X pins σ H s) (hf : ∀ b ∈ fp, FpOk X pins H b) (ho : ∀ b ∈ fp, ∃ o, s.heap.get? b = some o ∧ ∀ v, o.data ≠ .cell v) : Inv X (pins ++ pinsAt fp s.heap) σ H s :=
  I.pins_of fun p hp => (List.mem_append.mp hp).elim (fun z => I.pin p (List.mem_append_right _ z)) fun z => by
    obtain ⟨hb, e⟩ := of_pinsAt z
    obtain ⟨f0, f1, f2, _⟩ := hf p.1 hb
    obtain ⟨o, e', d⟩ := ho p.1 hb
    rw [e] at e'; cases e'
    exact ⟨e, f0, f1, f2, d⟩
theorem Inv.unpinned {pins pl : List (Addr × Obj)} {σ : St} {H : Hp} {s : Shared} (I : Inv X (pins ++ pl) σ H s) : Inv X pins σ H s := I.pins_of fun p hp => I.pin p (List.mem_append_right _ (List.mem_append_left _ hp))
theorem ps_for {iter : Expr} {body : List Stmt} {wi : TI} {g : TG} {tb : TS} {pos : Pos} (hp : PassesOwn (model X.prog X.w) X.A X.env X.xe) (hc : X.calm = true) (hi : PI X tg iter wi) (hg : PG X tg g) (hb : PSs X body tb)
    (hs : ∀ x, foldedSetIterable iter X.env x = pure x := by intro _; rfl) : PS X (.For tg iter body [] pos) (tFor wi g tb) := by
  intro pins s σ H D I h
  refine wpAny_For (thn (hi pins s σ H _ I h) fun v s1 h1 => thn h1 fun itv s2 h2 => ?_) hs
  obtain ⟨it, fp, tn, J, H2, e, I2, T, st2, f2, W, ⟨m0, w0⟩, turn⟩ := h2
  subst e
  have stat : ∀ {H' : Hp}, (∀ b ∈ fp, H' b = none) → ∀ b ∈ fp, FpOk X pins H' b := fun hn b hb => ⟨hn b hb, (f2 b hb).2⟩
  refine codeAny_forLoop_any (fun n s' => ∃ i σ' H', Inv X pins σ' H' s' ∧ tn i s'.heap ∧ (∀ b ∈ fp, H' b = none) ∧ W i n σ' H') ?_ m0 ⟨0, σ, H2, I2, st2, fun b hb => (f2 b hb).1, w0⟩
  rintro n s3 ⟨i, σ3, H3, I3, st3, fr3, w3⟩
  rcases turn i n σ3 H3 w3 with ⟨stop, qn⟩ | ⟨go, N, hN, step⟩
  · refine wpAny_passesOwn hp (thn (T.done X rfl rfl rfl hc i pins s3 σ3 H3 X.xe I3 (stat fr3) st3 stop) fun r s4 ⟨hr, I4⟩ => ?_)
    subst hr
    exact wpAny_execs_nil ⟨σ3, H3, I4, qn⟩
  · refine wpAny_passesOwn hp (thn (T.item X rfl rfl rfl hc i pins s3 σ3 H3 X.xe I3 (stat fr3) st3 go) fun r s4 ⟨u, hr, h4⟩ => ?_)
    subst hr
    refine wpAny_passesOwn hp (thn h4 fun _ s5 ⟨x, H5, I5, r5, y5, st5, fr5⟩ => ?_)
    have I5' := I5.pinned (stat fr5) (T.obj _ _ st5)
    refine wpAny_passesOwn hp (thn (hg _ s5 σ3 H5 x u _ I5' r5 (step x H5 y5)) fun _ s6 ⟨σ6, H6, I6, q6⟩ => ?_)
    refine wpAny_passesOwn hp (thn (hb _ s6 σ6 H6 _ I6 q6) fun f s7 q7 => ?_)
    have again : ∀ {σ7 : St} {H7 : Hp}, Inv X (pins ++ pinsAt fp s5.heap) σ7 H7 s7 → N σ7 H7 → ∃ m, m < n ∧ ∃ i σ' H', Inv X pins σ' H' s7 ∧ tn i s7.heap ∧ (∀ b ∈ fp, H' b = none) ∧ W i m σ' H' := fun {σ7 H7} I7 n7 => by
      obtain ⟨m', hm, w7⟩ := hN σ7 H7 n7
      refine ⟨m', hm, i + 1, σ7, H7, I7.unpinned, T.keep _ _ _ st5 fun b hb o e => (I7.pin (b, o) (List.mem_append_right _ (List.mem_append_right _ (mem_pinsAt hb e)))).1, fun b hb => ?_, w7⟩
      obtain ⟨o, e, d⟩ := T.obj _ _ st5 b hb
      exact (I7.pin (b, o) (List.mem_append_right _ (List.mem_append_right _ (mem_pinsAt hb e)))).2.1
    cases f with
    | next => obtain ⟨σ7, H7, I7, n7⟩ := q7; exact again I7 n7
    | cont => obtain ⟨σ7, H7, I7, n7⟩ := q7; exact again I7 n7
    | brk => obtain ⟨σ7, H7, I7, q7⟩ := q7; exact ⟨σ7, H7, I7.unpinned, q7⟩
    | ret v => obtain ⟨x7, σ7, H7, I7, r7, q7⟩ := q7; exact ⟨x7, σ7, H7, I7.unpinned, r7, q7⟩
end
theorem for_list {K : PySem.W.Frag} {a : Addr} {xs : List V} {g : TG} {tb : TS} {D : Ends} {σ : St} {H : Hp} (Pv : Nat → St → Hp → Prop) (h0 : Pv 0 σ H) (hl : ∀ i σ H, i ≤ xs.length → Pv i σ H → SqL K H a xs)
    (hs : ∀ i x σ H, xs[i]? = some x → Pv i σ H → g x σ H fun σ2 H2 => tb { D with nx := Pv (i + 1), ct := Pv (i + 1), bk := D.nx } σ2 H2) (hd : ∀ σ H, Pv xs.length σ H → D.nx σ H) :
    ∃ W : Nat → Nat → St → Hp → Prop, (∃ m, W 0 m σ H) ∧ ∀ i m σ H, W i m σ H →
      ((Itl K a).stop i H ∧ D.nx σ H) ∨ ((Itl K a).go i H ∧ ∃ N : St → Hp → Prop, (∀ σ' H', N σ' H' → ∃ m', m' < m ∧ W (i + 1) m' σ' H') ∧ ∀ x H', (Itl K a).yld i H x H' → g x σ H' fun σ2 H2 => tb { D with nx := N, ct := N, bk := D.nx } σ2 H2) := by
  refine ⟨fun i m σ H => m = xs.length - i ∧ i ≤ xs.length ∧ Pv i σ H, ⟨xs.length, by simp, Nat.zero_le _, h0⟩, ?_⟩
  rintro i m σ H ⟨rfl, hi, p⟩
  have q := hl i σ H hi p
  by_cases hlt : i < xs.length
  · refine .inr ⟨⟨xs, xs[i], q, by simp [hlt]⟩, Pv (i + 1), fun σ' H' p' => ⟨xs.length - (i + 1), by omega, rfl, hlt, p'⟩, fun x H' y => ?_⟩
    obtain ⟨e, y⟩ := y
    subst e
    exact hs i x σ _ (y xs q) p
  · have e : i = xs.length := by omega
    subst e
    exact .inl ⟨⟨xs, q, Nat.le_refl _⟩, hd σ H p⟩
theorem for_range {lo : Int} {n : Nat} {g : TG} {tb : TS} {D : Ends} {σ : St} {H : Hp} (Pv : Nat → St → Hp → Prop) (h0 : Pv 0 σ H)
    (hs : ∀ i σ H, i < n → Pv i σ H → g (.int (lo + i)) σ H fun σ2 H2 => tb { D with nx := Pv (i + 1), ct := Pv (i + 1), bk := D.nx } σ2 H2) (hd : ∀ σ H, Pv n σ H → D.nx σ H) :
    ∃ W : Nat → Nat → St → Hp → Prop, (∃ m, W 0 m σ H) ∧ ∀ i m σ H, W i m σ H →
      ((Itr lo n).stop i H ∧ D.nx σ H) ∨ ((Itr lo n).go i H ∧ ∃ N : St → Hp → Prop, (∀ σ' H', N σ' H' → ∃ m', m' < m ∧ W (i + 1) m' σ' H') ∧ ∀ x H', (Itr lo n).yld i H x H' → g x σ H' fun σ2 H2 => tb { D with nx := N, ct := N, bk := D.nx } σ2 H2) := by
  refine ⟨fun i m σ H => m = n - i ∧ i ≤ n ∧ Pv i σ H, ⟨n, by simp, Nat.zero_le _, h0⟩, ?_⟩
  rintro i m σ H ⟨rfl, hi, p⟩
  by_cases hlt : i < n
  · refine .inr ⟨hlt, Pv (i + 1), fun σ' H' p' => ⟨n - (i + 1), by omega, rfl, hlt, p'⟩, fun x H' y => ?_⟩
    obtain ⟨e, y⟩ := y
    subst e y
    exact hs i σ _ hlt p
  · have e : i = n := by omega
    subst e
    exact .inl ⟨Nat.le_refl _, hd σ H p⟩
end L2
namespace L2
open PySem PySem.Spec PyProof.Rows
abbrev R2 := V → V → Hp → VK → Prop
def OpR (X : Cx) (f : Value → Value → Sem Value) (r : R2) : Prop :=
  ∀ (pins : List (Addr × Obj)) (s : Shared) (σ : St) (H : Hp) (x y : V) (v u : Value) (Q : VK), Inv X pins σ H s → RelV x v → RelV y u → r x y H Q →
    wpAny (model X.prog X.w) X.A (f v u) (EP X pins σ Q) X.xe s
def UnR (X : Cx) (f : Value → Sem Value) (r : V → Hp → VK → Prop) : Prop :=
  ∀ (pins : List (Addr × Obj)) (s : Shared) (σ : St) (H : Hp) (x : V) (v : Value) (Q : VK), Inv X pins σ H s → RelV x v → r x H Q →
    wpAny (model X.prog X.w) X.A (f v) (EP X pins σ Q) X.xe s
def CallR (X : Cx) (f : Value) (r : List V → Hp → VK → Prop) : Prop :=
  ∀ (pins : List (Addr × Obj)) (s : Shared) (σ : St) (H : Hp) (xs : List V) (us : List Value) (Q : VK), Inv X pins σ H s → Vals xs us → r xs H Q →
    wpAny (model X.prog X.w) X.A (call f us) (EP X pins σ Q) X.xe s
def TruR (X : Cx) (r : V → Hp → (Bool → Hp → Prop) → Prop) : Prop :=
  ∀ (pins : List (Addr × Obj)) (s : Shared) (σ : St) (H : Hp) (x : V) (v : Value) (Q : Bool → Hp → Prop), Inv X pins σ H s → RelV x v → r x H Q →
    wpAny (model X.prog X.w) X.A (truthy v) (TP X pins σ Q) X.xe s
def tOp (r : R2) (ta tb : TE) : TE := fun σ H Q => ta σ H fun x H1 => tb σ H1 fun y H2 => r x y H2 Q
def tUn (r : V → Hp → VK → Prop) (ta : TE) : TE := fun σ H Q => ta σ H fun x H1 => r x H1 Q
def rI (C : Int → Int → Prop) (g : Int → Int → V) : R2 := fun x y H Q => ∃ i j, x = .int i ∧ y = .int j ∧ C i j ∧ Q (g i j) H
def rI0 (g : Int → Int → V) : R2 := fun x y H Q => ∃ i j, x = .int i ∧ y = .int j ∧ Q (g i j) H
def rU (g : Int → V) : V → Hp → VK → Prop := fun x H Q => ∃ i, x = .int i ∧ Q (g i) H
section
variable {X : Cx} {a b c : Expr} {ta tb tc : TE} {pos : Pos}
theorem binT (ha : PE X a ta) (hb : PE X b tb) {pins : List (Addr × Obj)} {s : Shared} {σ : St} {H : Hp} {R : V → V → Hp → Prop} (I : Inv X pins σ H s)
    (h : ta σ H fun x H1 => tb σ H1 fun y H2 => R x y H2) {Q : Value → Shared → Prop} {f : Value → Value → Sem Value}
    (hf : ∀ v u s2 x y H2, Inv X pins σ H2 s2 → RelV x v → RelV y u → R x y H2 → wpAny (model X.prog X.w) X.A (f v u) Q X.xe s2) :
    wpAny (model X.prog X.w) X.A (eval a X.env) (fun v s₁ => wpAny (model X.prog X.w) X.A (eval b X.env) (fun u s₂ => wpAny (model X.prog X.w) X.A (f v u) Q X.xe s₂) X.xe s₁) X.xe s := by
  refine thn (ha pins s σ H _ I h) fun v s1 ⟨x, H1, I1, r1, q1⟩ => ?_
  refine thn (hb pins s1 σ H1 _ I1 q1) fun u s2 ⟨y, H2, I2, r2, q2⟩ => ?_
  exact hf v u s2 x y H2 I2 r1 r2 q2
theorem pe_op {op : Operator} {r : R2} (ho : OpR X (binaryOp op) r) (ha : PE X a ta) (hb : PE X b tb) : PE X (.BinOp a op b pos) (tOp r ta tb) := by
  intro pins s σ H Q I h
  exact wpAny_BinOp (binT ha hb I h fun v u s2 x y H2 I2 rx ry q => ho pins s2 σ H2 x y v u Q I2 rx ry q)
theorem pe_un {op : UnaryOp} {r : V → Hp → VK → Prop} (ho : UnR X (unaryOp op) r) (ha : PE X a ta) : PE X (.UnaryOp op a pos) (tUn r ta) := by
  intro pins s σ H Q I h
  exact UnaryOp_ (thn (ha pins s σ H _ I h) fun v s1 ⟨x, H1, I1, r1, q1⟩ => ho pins s1 σ H1 x v Q I1 r1 q1)
theorem opI {f : Value → Value → Sem Value} {C : Int → Int → Prop} {g : Int → Int → Int}
    (rule : ∀ (i j : Int) (t u : Tok) (s : Shared) (Q : Value → Shared → Prop) (E : Value → Shared → Prop), C i j → Q (.int (g i j) s.toks) { s with toks := s.toks + 1 } → wpAny (model X.prog X.w) X.A (f (.int i t) (.int j u)) Q E s) :
    OpR X f (rI C fun i j => .int (g i j)) := by
  intro pins s σ H x y v u Q I rx ry h
  obtain ⟨i, j, rfl, rfl, hc, q⟩ := h
  obtain ⟨t, rfl⟩ := rx
  obtain ⟨t', rfl⟩ := ry
  exact rule i j t t' s _ _ hc ⟨.int (g i j), H, I.tok _, ⟨_, rfl⟩, q⟩
theorem opI0 {f : Value → Value → Sem Value} {g : Int → Int → Int}
    (rule : ∀ (i j : Int) (t u : Tok) (s : Shared) (Q : Value → Shared → Prop) (E : Value → Shared → Prop), Q (.int (g i j) s.toks) { s with toks := s.toks + 1 } → wpAny (model X.prog X.w) X.A (f (.int i t) (.int j u)) Q E s) :
    OpR X f (rI0 fun i j => .int (g i j)) := by
  intro pins s σ H x y v u Q I rx ry h
  obtain ⟨i, j, rfl, rfl, q⟩ := h
  obtain ⟨t, rfl⟩ := rx
  obtain ⟨t', rfl⟩ := ry
  exact rule i j t t' s _ _ ⟨.int (g i j), H, I.tok _, ⟨_, rfl⟩, q⟩
theorem opB0 {f : Value → Value → Sem Value} {g : Int → Int → Bool}
    (rule : ∀ (i j : Int) (t u : Tok) (s : Shared) (Q : Value → Shared → Prop) (E : Value → Shared → Prop), Q (.bool (g i j)) s → wpAny (model X.prog X.w) X.A (f (.int i t) (.int j u)) Q E s) :
    OpR X f (rI0 fun i j => .bl (g i j)) := by
  intro pins s σ H x y v u Q I rx ry h
  obtain ⟨i, j, rfl, rfl, q⟩ := h
  obtain ⟨t, rfl⟩ := rx
  obtain ⟨t', rfl⟩ := ry
  exact rule i j t t' s _ _ ⟨.bl (g i j), H, I, rfl, q⟩
def CDiv (i j : Int) : Prop := 0 < j ∧ j < 1073741824
def CPow (i j : Int) : Prop := 0 ≤ j ∧ j ≤ 1000000 ∧ i.natAbs < 2 ^ 64
def CMul (i j : Int) : Prop := (-(2 ^ 64) < i ∧ i < 2 ^ 64) ∨ (-(2 ^ 64) < j ∧ j < 2 ^ 64)
theorem CMul.ok {i j : Int} (h : CMul i j) : IntMulOk i j := by
  rcases h with ⟨h1, h2⟩ | ⟨h1, h2⟩
  · exact .of_left (intBits_le_64 h1 h2)
  · exact .of_right (intBits_le_64 h1 h2)
theorem op_add : OpR X (binaryOp .Add) (rI0 fun i j => .int (i + j)) := opI0 fun _ _ _ _ _ _ _ q => add_int q
theorem op_sub : OpR X (binaryOp .Sub) (rI0 fun i j => .int (i - j)) := opI0 fun _ _ _ _ _ _ _ q => sub_int q
theorem op_mul : OpR X (binaryOp .Mult) (rI CMul fun i j => .int (i * j)) := opI fun _ _ _ _ _ _ _ hc q => mul_int q hc.ok
theorem op_fdiv : OpR X (binaryOp .FloorDiv) (rI CDiv fun i j => .int (i / j)) := opI fun i j _ _ _ _ _ hc q => by
  have h1 : (0 : Int) < j := hc.1
  have h2 : j < 1073741824 := hc.2
  exact floordiv_int (by omega) (by rw [Int.fdiv_eq_ediv_of_nonneg i (by omega)]; exact q) (.inl (PyProof.noPylong_small (by omega)))
theorem op_mod : OpR X (binaryOp .Mod) (rI (fun _ j => 0 < j) fun i j => .int (i % j)) := opI fun i j _ _ _ _ _ hc q => by
  have h1 : (0 : Int) < j := hc
  exact mod_int' (by omega) (by rw [Int.fmod_eq_emod_of_nonneg i (by omega)]; exact q)
theorem op_pow : OpR X (binaryOp .Pow) (rI CPow fun i j => .int (i ^ j.toNat)) := opI fun _ _ _ _ _ _ _ hc q => pow_int_small hc.1 hc.2.1 hc.2.2 q
theorem unI {f : Value → Sem Value} {g : Int → Int}
    (rule : ∀ (i : Int) (t : Tok) (s : Shared) (Q : Value → Shared → Prop) (E : Value → Shared → Prop), Q (.int (g i) s.toks) { s with toks := s.toks + 1 } → wpAny (model X.prog X.w) X.A (f (.int i t)) Q E s) :
    UnR X f (rU fun i => .int (g i)) := by
  intro pins s σ H x v Q I rx h
  obtain ⟨i, rfl, q⟩ := h
  obtain ⟨t, rfl⟩ := rx
  exact rule i t s _ _ ⟨.int (g i), H, I.tok _, ⟨_, rfl⟩, q⟩
theorem un_neg : UnR X (unaryOp .USub) (rU fun i => .int (-i)) := unI fun _ _ _ _ _ q => neg_int q
end
def scal : V → V → Bool
  | .non, .non => true | .non, .int _ => true | .int _, .non => true | .non, .bl _ => true | .bl _, .non => true | .non, .str _ => true | .str _, .non => true
  | .int _, .int _ => true | .bl _, .bl _ => true | .str _, .str _ => true | .byt _, .byt _ => true
  | .int _, .str _ => true | .str _, .int _ => true | .bl _, .str _ => true | .str _, .bl _ => true
  | _, _ => false
def rEq : R2 := fun x y H Q => scal x y = true ∧ Q (.bl (decide (x = y))) H
def rNe : R2 := fun x y H Q => scal x y = true ∧ Q (.bl (!decide (x = y))) H
theorem dec_int {i j : Int} : decide (V.int i = V.int j) = (i == j) := by
  rw [Bool.eq_iff_iff]
  simp
theorem dec_bl {i j : Bool} : decide (V.bl i = V.bl j) = (i == j) := by
  rw [Bool.eq_iff_iff]
  simp
theorem dec_str {i j : Str} : decide (V.str i = V.str j) = (i == j) := by
  rw [Bool.eq_iff_iff]
  simp
theorem dec_byt {i j : Array UInt8} : decide (V.byt i = V.byt j) = (i.toList == j.toList) := by
  rw [Bool.eq_iff_iff]
  cases i
  cases j
  simp
section
variable {X : Cx} {a b c : Expr} {ta tb tc : TE} {pos : Pos}
theorem fin_bl {pins : List (Addr × Obj)} {σ : St} {H : Hp} {s : Shared} {Q : VK} {k k' : Bool} (I : Inv X pins σ H s) (q : Q (.bl k) H) (e : k = k') : EP X pins σ Q (.bool k') s := by
  subst e
  exact ⟨.bl k, H, I, rfl, q⟩
theorem op_eq : OpR X (compareOp .Eq) rEq := by
  intro pins s σ H x y v u Q I rx ry h
  obtain ⟨hs, q⟩ := h
  cases x with
  | non =>
    cases rx
    cases y with
    | non => cases ry; exact PySem.EqNone.eq_none_none (fin_bl I q (by simp))
    | bl j => cases ry; exact PySem.EqNone.eq_none_bool (fin_bl I q (by simp))
    | int j => obtain ⟨t', rfl⟩ := ry; exact PySem.EqNone.eq_none_int (fin_bl I q (by simp))
    | str j => obtain ⟨t', rfl⟩ := ry; exact PySem.EqNone.eq_none_str (fin_bl I q (by simp))
    | _ => exact absurd (show false = true from hs) Bool.false_ne_true
  | bl i =>
    cases rx
    cases y with
    | non => cases ry; exact PySem.EqNone.eq_bool_none (fin_bl I q (by simp))
    | bl j => cases ry; exact eq_bool (fin_bl I q dec_bl)
    | str j => obtain ⟨t', rfl⟩ := ry; exact PySem.EqMixed.eq_bool_str (fin_bl I q (by simp))
    | _ => exact absurd (show false = true from hs) Bool.false_ne_true
  | int i =>
    obtain ⟨t, rfl⟩ := rx
    cases y with
    | non => cases ry; exact PySem.EqNone.eq_int_none (fin_bl I q (by simp))
    | int j => obtain ⟨t', rfl⟩ := ry; exact eq_int (fin_bl I q dec_int)
    | str j => obtain ⟨t', rfl⟩ := ry; exact PySem.EqMixed.eq_int_str (fin_bl I q (by simp))
    | _ => exact absurd (show false = true from hs) Bool.false_ne_true
  | str i =>
    obtain ⟨t, rfl⟩ := rx
    cases y with
    | non => cases ry; exact PySem.EqNone.eq_str_none (fin_bl I q (by simp))
    | bl j => cases ry; exact PySem.EqMixed.eq_str_bool (fin_bl I q (by simp))
    | int j => obtain ⟨t', rfl⟩ := ry; exact PySem.EqMixed.eq_str_int (fin_bl I q (by simp))
    | str j => obtain ⟨t', rfl⟩ := ry; exact eq_str (fin_bl I q dec_str)
    | _ => exact absurd (show false = true from hs) Bool.false_ne_true
  | byt i =>
    obtain ⟨t, rfl⟩ := rx
    cases y with
    | byt j => obtain ⟨t', rfl⟩ := ry; exact PySem.W.eq_bytes (fin_bl I q dec_byt)
    | _ => exact absurd (show false = true from hs) Bool.false_ne_true
  | _ => cases y <;> exact absurd (show false = true from hs) Bool.false_ne_true
theorem op_ne : OpR X (compareOp .NotEq) rNe := by
  intro pins s σ H x y v u Q I rx ry h
  obtain ⟨hs, q⟩ := h
  cases x with
  | non =>
    cases rx
    cases y with
    | non => cases ry; exact PySem.EqNone.ne_none_none (fin_bl I q (by simp))
    | bl j => cases ry; exact PySem.EqNone.ne_none_bool (fin_bl I q (by simp))
    | int j => obtain ⟨t', rfl⟩ := ry; exact PySem.EqNone.ne_none_int (fin_bl I q (by simp))
    | str j => obtain ⟨t', rfl⟩ := ry; exact PySem.EqNone.ne_none_str (fin_bl I q (by simp))
    | _ => exact absurd (show false = true from hs) Bool.false_ne_true
  | bl i =>
    cases rx
    cases y with
    | non => cases ry; exact PySem.EqNone.ne_bool_none (fin_bl I q (by simp))
    | bl j => cases ry; exact ne_bool (fin_bl I q (congrArg not dec_bl))
    | str j => obtain ⟨t', rfl⟩ := ry; exact PySem.EqMixed.ne_bool_str (fin_bl I q (by simp))
    | _ => exact absurd (show false = true from hs) Bool.false_ne_true
  | int i =>
    obtain ⟨t, rfl⟩ := rx
    cases y with
    | non => cases ry; exact PySem.EqNone.ne_int_none (fin_bl I q (by simp))
    | int j => obtain ⟨t', rfl⟩ := ry; exact ne_int (fin_bl I q (congrArg not dec_int))
    | str j => obtain ⟨t', rfl⟩ := ry; exact PySem.EqMixed.ne_int_str (fin_bl I q (by simp))
    | _ => exact absurd (show false = true from hs) Bool.false_ne_true
  | str i =>
    obtain ⟨t, rfl⟩ := rx
    cases y with
    | non => cases ry; exact PySem.EqNone.ne_str_none (fin_bl I q (by simp))
    | bl j => cases ry; exact PySem.EqMixed.ne_str_bool (fin_bl I q (by simp))
    | int j => obtain ⟨t', rfl⟩ := ry; exact PySem.EqMixed.ne_str_int (fin_bl I q (by simp))
    | str j => obtain ⟨t', rfl⟩ := ry; exact ne_str (fin_bl I q (congrArg not dec_str))
    | _ => exact absurd (show false = true from hs) Bool.false_ne_true
  | byt i =>
    obtain ⟨t, rfl⟩ := rx
    cases y with
    | byt j => obtain ⟨t', rfl⟩ := ry; exact PySem.W.ne_bytes (fin_bl I q (congrArg not dec_byt))
    | _ => exact absurd (show false = true from hs) Bool.false_ne_true
  | _ => cases y <;> exact absurd (show false = true from hs) Bool.false_ne_true
theorem op_lt : OpR X (compareOp .Lt) (rI0 fun i j => .bl (decide (i < j))) := opB0 fun _ _ _ _ _ _ _ q => lt_int q
theorem op_le : OpR X (compareOp .LtE) (rI0 fun i j => .bl (decide (i ≤ j))) := opB0 fun _ _ _ _ _ _ _ q => le_int q
theorem op_gt : OpR X (compareOp .Gt) (rI0 fun i j => .bl (decide (j < i))) := opB0 fun _ _ _ _ _ _ _ q => gt_int q
theorem op_in_str : OpR X (compareOp .In) (fun x y H Q => ∃ i j, x = .str i ∧ y = .str j ∧ Q (.bl (!(Builtin.Str.occurrences j i 0 j.length 1).isEmpty)) H) := by
  intro pins s σ H x y v u Q I rx ry h
  obtain ⟨i, j, rfl, rfl, q⟩ := h
  obtain ⟨t, rfl⟩ := rx
  obtain ⟨t', rfl⟩ := ry
  exact in_str (fin_bl I q rfl)
theorem op_isN : OpR X (compareOp .Is) (fun x y H Q => y = .non ∧ Q (.bl (decide (x = .non))) H) := by
  intro pins s σ H x y v u Q I rx ry h
  obtain ⟨rfl, q⟩ := h
  cases ry
  refine is_none_gen (fin_bl I q ?_)
  cases x <;> first
    | (cases rx; rfl)
    | (obtain ⟨t, rfl⟩ := rx; rfl)
theorem op_notN : OpR X (compareOp .IsNot) (fun x y H Q => y = .non ∧ Q (.bl (!decide (x = .non))) H) := by
  intro pins s σ H x y v u Q I rx ry h
  obtain ⟨rfl, q⟩ := h
  cases ry
  refine isnot_none_gen (fin_bl I q ?_)
  cases x <;> first
    | (cases rx; rfl)
    | (obtain ⟨t, rfl⟩ := rx; rfl)
theorem OpR.or {f : Value → Value → Sem Value} {r r' : R2} (h : OpR X f r) (h' : OpR X f r') : OpR X f (fun x y H Q => r x y H Q ∨ r' x y H Q) := by
  intro pins s σ H x y v u Q I rx ry q
  rcases q with q | q
  · exact h pins s σ H x y v u Q I rx ry q
  · exact h' pins s σ H x y v u Q I rx ry q
theorem pe_cmpR {op : CmpOp} {r : R2} (ho : OpR X (compareOp op) r) (ha : PE X a ta) (hb : PE X b tb) (hm : behindInMarks op b = false) : PE X (.Compare a [op] [b] pos) (tOp r ta tb) := by
  intro pins s σ H Q I h
  exact wpAny_Compare1 (binT ha hb I h fun v u s2 x y H2 I2 rx ry q => ho pins s2 σ H2 x y v u Q I2 rx ry q) hm
def tTest (t : TE) : TT := fun σ H Q => t σ H fun x H' => ∃ k, x = .bl k ∧ Q k H'
theorem pt_cmpR {op : CmpOp} {r : R2} (ho : OpR X (compareOp op) r) (ha : PE X a ta) (hb : PE X b tb) (hm : behindInMarks op b = false) : PT X (.Compare a [op] [b] pos) (tTest (tOp r ta tb)) := by
  intro pins s σ H Q I h
  refine wpAny_isTrue_Compare1 (thn (ha pins s σ H _ I h) fun v s1 ⟨x, H1, I1, r1, q1⟩ => thn (hb pins s1 σ H1 _ I1 q1) fun u s2 ⟨y, H2, I2, r2, q2⟩ =>
    thn (ho pins s2 σ H2 x y v u _ I2 r1 r2 q2) fun c s3 ⟨z, H3, I3, r3, k, e, q3⟩ => ?_) hm
  subst e
  cases r3
  exact wpAny_truthy_bool ⟨H3, I3, q3⟩
def tChain (r r' : R2) (ta tb tc : TE) : TE := fun σ H Q => ta σ H fun x H1 => tb σ H1 fun y H2 => r x y H2 fun z H3 => ∃ k, z = .bl k ∧
  (if k = true then tc σ H3 fun w' H4 => r' y w' H4 Q else Q (.bl false) H3)
theorem pe_chain {op op' : CmpOp} {r r' : R2} (ho : OpR X (compareOp op) r) (ho' : OpR X (compareOp op') r') (ha : PE X a ta) (hb : PE X b tb) (hc : PE X c tc)
    (hm : lastMarks [op, op'] [b, c] = false := by with_unfolding_all rfl) : PE X (.Compare a [op, op'] [b, c] pos) (tChain r r' ta tb tc) := by
  intro pins s σ H Q I h
  refine Compare_chain (thn (ha pins s σ H _ I h) fun v s1 ⟨x, H1, I1, r1, q1⟩ => chain_link (thn (hb pins s1 σ H1 _ I1 q1) fun u s2 ⟨y, H2, I2, r2, q2⟩ =>
    thn (ho pins s2 σ H2 x y v u _ I2 r1 r2 q2) fun d s3 ⟨z, H3, I3, r3, k, e, q3⟩ => ?_)) hm
  subst e
  cases r3
  refine wpAny_truthy_bool ?_
  cases k with
  | false => exact ite_ff ⟨.bl false, H3, I3, rfl, q3⟩
  | true => exact ite_tt (chain_last (thn (hc pins s3 σ H3 _ I3 q3) fun w' s4 ⟨z', H4, I4, r4, q4⟩ => ho' pins s4 σ H4 y z' u w' Q I4 r2 r4 q4))
def TruV (K : PySem.W.Frag) (x : V) (H : Hp) (k : Bool) : Prop :=
  match x with
  | .non => k = false
  | .bl b => k = b
  | .int i => k = (i != 0)
  | .str y => y.length ≤ sizeLine ∧ k = ((y.length : Int) != 0)
  | .byt y => y.size ≤ sizeLine ∧ k = ((y.size : Int) != 0)
  | .ref p => (∃ xs, SqL K H p xs ∧ k = !xs.isEmpty) ∨ (∃ xs, SqT K H p xs ∧ k = !xs.isEmpty) ∨ ∃ kvs, H p = some (.dK kvs) ∧ k = !kvs.isEmpty
  | _ => False
theorem isEmpty_kv {κ : Type} {kvs : List (κ × V)} {vs : List (κ × Value)} (r : KV kvs vs) : (!vs.isEmpty) = !kvs.isEmpty := by
  cases r <;> rfl
theorem isEmpty_of {xs : List V} {its : List Value} (r : Vals xs its) : (!its.toArray.isEmpty) = !xs.isEmpty := by
  cases r <;> simp
theorem line63 : (sizeLine : Nat) < 2 ^ 63 := by rw [sizeLine_eq]; decide
theorem tru_ok : TruR X (fun x H Q => ∃ k, TruV X.K x H k ∧ Q k H) := by
  intro pins s σ H x v Q I rx h
  obtain ⟨k, e, q⟩ := h
  have hl := line63
  have hs : sizeLine = 16777216 := sizeLine_eq
  cases x with
  | non =>
    cases rx
    have e' : k = false := e
    subst e'
    exact truthy_none ⟨H, I, q⟩
  | bl b =>
    cases rx
    have e' : k = b := e
    subst e'
    exact wpAny_truthy_bool ⟨H, I, q⟩
  | int i =>
    obtain ⟨t, rfl⟩ := rx
    have e' : k = (i != 0) := e
    subst e'
    exact PySem.P.truthy_int ⟨H, I, q⟩
  | str y =>
    obtain ⟨t, rfl⟩ := rx
    obtain ⟨hy, e'⟩ : y.length ≤ sizeLine ∧ k = ((y.length : Int) != 0) := e
    subst e'
    exact PySem.P.truthy_str (by omega) ⟨H, I.tok _, q⟩
  | byt y =>
    obtain ⟨t, rfl⟩ := rx
    obtain ⟨hy, e'⟩ : y.size ≤ sizeLine ∧ k = ((y.size : Int) != 0) := e
    subst e'
    exact PySem.W.truthy_bytes (by omega) ⟨H, I.tok _, q⟩
  | ref p =>
    cases rx
    have e' : (∃ xs, SqL X.K H p xs ∧ k = !xs.isEmpty) ∨ (∃ xs, SqT X.K H p xs ∧ k = !xs.isEmpty) ∨ ∃ kvs, H p = some (.dK kvs) ∧ k = !kvs.isEmpty := e
    rcases e' with ⟨xs, hx, e'⟩ | ⟨xs, hx, e'⟩ | ⟨kvs, hx, e'⟩
    · subst e'
      obtain ⟨its, r, pl, hz⟩ := I.list hx
      have hlen := r.length
      exact wpAny_truthy_list pl.isList (by simp only [List.size_toArray]; omega) ⟨H, I.tok _, by rw [isEmpty_of r]; exact q⟩
    · subst e'
      obtain ⟨its, r, pl, hz⟩ := I.tuple hx
      have hlen := r.length
      exact truthy_tuple pl (by simp only [List.size_toArray]; omega) ⟨H, I.tok _, by rw [isEmpty_of r]; exact q⟩
    · subst e'
      obtain ⟨hz, hS, vs, r, m⟩ : kvs.length ≤ sizeLine ∧ (p == sysModules) = false ∧ ∃ vs, KV kvs vs ∧ s.heap.DictOf (mixKind X.prog X.w) p vs := I.hok p _ hx
      have hlen : kvs.length = vs.length := Paired.length r
      exact wpAny_truthy_dict hS m (by omega) ⟨H, I.tok _, by rw [isEmpty_kv r]; exact q⟩
  | _ => exact (show False from e).elim
theorem pt_truth (ha : PE X a ta) (he : ∀ whole, isTrue a X.env whole = (do let v ← whole; standAt a.pos; holding [v] (truthy v))) :
    PT X a (fun σ H Q => ta σ H fun x H' => ∃ k, TruV X.K x H' k ∧ Q k H') := by
  intro pins s σ H Q I h
  exact isTrue_plain (thn (ha pins s σ H _ I h) fun v s1 ⟨x, H1, I1, r1, q1⟩ => tru_ok pins s1 σ H1 x v Q I1 r1 q1) (he _)
theorem op_add_str : OpR X (binaryOp .Add) (fun x y H Q => ∃ i j, x = .str i ∧ y = .str j ∧ i.length + j.length ≤ sizeLine ∧ Q (.str (i ++ j)) H) := by
  intro pins s σ H x y v u Q I rx ry h
  obtain ⟨i, j, rfl, rfl, hz, q⟩ := h
  obtain ⟨t, rfl⟩ := rx
  obtain ⟨t', rfl⟩ := ry
  exact add_str (fun t' tk => ⟨.str (i ++ j), H, I.tok _, ⟨_, rfl⟩, q⟩) hz
theorem vals1 {x : V} {us : List Value} (r : Vals [x] us) : ∃ u, us = [u] ∧ RelV x u := by
  cases r with
  | cons r1 r2 => cases r2; exact ⟨_, rfl, r1⟩
theorem vals2 {x y : V} {us : List Value} (r : Vals [x, y] us) : ∃ u w', us = [u, w'] ∧ RelV x u ∧ RelV y w' := by
  cases r with
  | cons r1 r2 =>
    cases r2 with
    | cons r3 r4 => cases r4; exact ⟨_, _, rfl, r1, r3⟩
def LenV (K : PySem.W.Frag) (x : V) (H : Hp) (n : Nat) : Prop :=
  match x with
  | .str y => y.length ≤ sizeLine ∧ n = y.length
  | .byt y => y.size ≤ sizeLine ∧ n = y.size
  | .ref p => (∃ xs, SqL K H p xs ∧ n = xs.length) ∨ ∃ xs, SqT K H p xs ∧ n = xs.length
  | _ => False
theorem call_len : CallR X (.builtin "len") (fun xs H Q => ∃ x n, xs = [x] ∧ LenV X.K x H n ∧ Q (.int n) H) := by
  intro pins s σ H xs us Q I r h
  obtain ⟨x, n, rfl, e, q⟩ := h
  obtain ⟨u, rfl, rx⟩ := vals1 r
  have hl := line63
  have hs : sizeLine = 16777216 := sizeLine_eq
  cases x with
  | str y =>
    obtain ⟨t, rfl⟩ := rx
    obtain ⟨hy, e'⟩ : y.length ≤ sizeLine ∧ n = y.length := e
    subst e'
    exact len_str (by omega) ⟨.int _, H, I.tok _, ⟨_, rfl⟩, q⟩
  | byt y =>
    obtain ⟨t, rfl⟩ := rx
    obtain ⟨hy, e'⟩ : y.size ≤ sizeLine ∧ n = y.size := e
    subst e'
    exact PySem.W.len_bytes (by omega) ⟨.int _, H, I.tok _, ⟨_, rfl⟩, q⟩
  | ref p =>
    cases rx
    have e' : (∃ xs, SqL X.K H p xs ∧ n = xs.length) ∨ ∃ xs, SqT X.K H p xs ∧ n = xs.length := e
    rcases e' with ⟨xs, hx, e'⟩ | ⟨xs, hx, e'⟩
    · subst e'
      obtain ⟨its, r', pl, hz⟩ := I.list hx
      have hlen := r'.length
      exact Calls.call_len_list pl.isList (by simp only [List.size_toArray]; omega) ⟨.int xs.length, H, I.tok _, ⟨_, by simp only [List.size_toArray]; rw [hlen]⟩, q⟩
    · subst e'
      obtain ⟨its, r', pl, hz⟩ := I.tuple hx
      have hlen := r'.length
      exact len_tuple pl (by simp only [List.size_toArray]; omega) ⟨.int xs.length, H, I.tok _, ⟨_, by simp only [List.size_toArray]; rw [hlen]⟩, q⟩
  | _ => exact (show False from e).elim
end
end L2
namespace L2
open PySem PySem.Spec PyProof.Rows
structure ObjM (h : Heap) (x dx C : Addr) (mA : Str → Option Value) : Prop where
  obj : h.get? x = some (PySem.W.instObj C dx)
  ns : h.Ns1 dx mA
  ne : dx ≠ x
theorem lookIn_ns {h : Heap} {dx : Addr} {mA : Str → Option Value} (n : h.Ns1 dx mA) : ∃ od, h.get? dx = some od ∧ ∀ name, PySem.W.lookIn name od = some (mA name) := by
  obtain ⟨o, es, ep, ho, hd, hk, _, hm⟩ := n
  refine ⟨o, ho, fun name => ?_⟩
  have e := hm name
  unfold nsFind findBy at e
  rw [← Array.find?_toList] at e
  unfold PySem.W.lookIn
  rw [hd]
  dsimp only
  split
  · rename_i y q
    rw [q] at e
    exact congrArg some e
  · rename_i q
    rw [q] at e
    have a : es.toList.any (·.refKey) = false := by
      rw [List.any_eq_false]
      intro y hy
      obtain ⟨z, t, hkey⟩ := hk y (Array.mem_toList_iff.mp hy)
      simp [DictEntry.refKey, hkey]
    have a' : ¬ es.toList.any (·.refKey) = true := by rw [a]; exact Bool.false_ne_true
    rw [if_neg a']
    exact congrArg some e
theorem ObjM.look {h : Heap} {x dx C : Addr} {mA : Str → Option Value} (I : ObjM h x dx C mA) : ∃ od, PySem.W.InstAt h x (PySem.W.instObj C dx) C (some od) ∧ ∀ name, PySem.W.lookIn name od = some (mA name) :=
  let ⟨od, ho, hl⟩ := lookIn_ns I.ns
  ⟨od, ⟨I.obj, rfl, rfl, ho⟩, hl⟩
section
variable {prog : Program} {w : World} {A : Around} {E : Value → Shared → Prop} {s : Shared} {K : PySem.W.Frag} {x dx C f : Addr} {mA : Str → Option Value} {name : Str} {v : Value}
theorem get_map {expr : Bool} {Q : Value → Shared → Prop} (X : K.In s.heap) (I : ObjM s.heap x dx C mA) (hg : PySem.W.plainGet K C name = true) (hh : PySem.W.hasDictIn K C = true)
    (ha : PySem.W.findIn K (.ref C) name = some none) (hv : mA name = some v) (hv' : PySem.W.handedIn v = true) (h : Q v { s with toks := s.toks + 1 }) :
    wpAny (model prog w) A (getAttr (.ref x) name expr) Q E s := by
  obtain ⟨od, J, hl⟩ := I.look
  exact PySem.W.get_value X J (PySem.W.plainGet_of hg).1 (PySem.W.findObj_own hh ha rfl (by rw [hl, hv])) hv' h
theorem get_meth {pl : Sem Bool} {Q : Value × List Value → Shared → Prop} (X : K.In s.heap) (I : ObjM s.heap x dx C mA) (hg : PySem.W.plainGet K C name = true)
    (hf : PySem.W.findIn K (.ref C) name = some (some (.ref f))) (ht : PySem.W.isFn K (.ref f) = true) (hv : mA name = none) (h : Q (.ref f, [.ref x]) s) :
    wpAny (model prog w) A (getMethod (.ref x) name pl) Q E s := by
  obtain ⟨od, J, hl⟩ := I.look
  exact PySem.W.method_fn X J (PySem.W.plainGet_of hg).1 (PySem.W.plainGet_of hg).2 hf (beq_iff_eq.mp ht) (by show (PySem.W.lookIn name od).map (·.isSome) = some false; rw [hl, hv]; rfl) h
theorem set_map {ns : List Str} {Q : Unit → Shared → Prop} (X : K.In s.heap) (I : ObjM s.heap x dx C mA)
    (hs : PySem.W.findIn K (.ref C) "__setattr__" = some (some (.builtin "object.__setattr__"))) (hp : PySem.W.plainOver K C = true) (ht : PySem.W.takerIn K C name = some none) (hh : PySem.W.hasDictIn K C = true)
    (hw : PySem.Within mA ns) (hsz : ns.length ≤ sizeLine)
    (h : ∀ h', ObjM h' x dx C (fun y => if y = name then some v else mA y) → Heap.SameBut dx s.heap h' → Q () { s with heap := h', toks := s.toks + 2 }) :
    wpAny (model prog w) A (setAttr (.ref x) name v) Q E s := by
  obtain ⟨od, J, hl⟩ := I.look
  refine PySem.W.set_plain X J hs (PySem.W.osa_open (s := { s with toks := s.toks + 1 }) (r := none) X J hp ht fun b => ?_)
  obtain ⟨cd, hc, hd'⟩ := PySem.W.any_some hh
  have hx : s.heap.get? x = some ⟨.ref C, some dx, .plain, #[]⟩ := I.obj
  refine wpAny_bind (wpAny_pure (wpAny_bind (wpAny_bind (wpAny_loadPart hx (wpAny_bind (PySem.W.Looks.here (s := { s with toks := s.toks + 1 }) (PySem.W.looks_clsIn X hc) ?_))))))
  rw [hd']
  refine wpAny_pure (a := some dx) (wpAny_bind (wpAny_pure (wpAny_bind ?_)))
  refine wpAny_nsSet1 (s := { s with toks := s.toks + 1 }) I.ns fun h' hn2 hs2 => ?_
  obtain ⟨oD, esD, epD, hoD, hdD, hcD⟩ := hn2.count (PySem.Within.cons name v hw)
  refine wpAny_bind (wpAny_lookBehind hoD (by rw [hdD]; exact pastItsLine_dict (Nat.le_trans hcD (by rw [List.length_cons]; omega))) ?_)
  exact wpAny_pure (h _ ⟨(hs2.2 _ (Ne.symm I.ne)).trans I.obj, hn2, I.ne⟩ hs2)
theorem make_map {R : Result → Shared → Prop} {vs : List Value} {kw : List (Str × Value)} (X : K.In s.heap) (hm : PySem.W.makesIn K C = true)
    (hi : PySem.W.findIn K (.ref C) "__init__" = some (some (.ref f))) (hf : PySem.W.typeIn K (.ref f) = some (.type "function"))
    (h : codeAny (model prog w) (A.under (.builtin "type.__call__" ⟨.ref C :: vs, kw⟩)) (.call (.ref f) ⟨.ref (s.heap.objs.size + 1) :: vs, kw⟩) (PySem.W.InitBack (s.heap.objs.size + 1) R)
      { s with heap := (s.heap.push PySem.W.emptyDict).push (PySem.W.instObj C s.heap.objs.size) }) :
    codeAny (model prog w) A (.call (.ref C) ⟨vs, kw⟩) R s := by
  obtain ⟨hh, g, d, t, os⟩ := s
  exact PySem.W.make_core (PySem.W.makes_of X hm) (PySem.W.looks_findIn X hi) (fun self => PySem.W.bind_fn X self hf) (.inl rfl) h
end
def putF (f : Str) (v : V) : List (Str × V) → List (Str × V)
  | [] => [(f, v)]
  | (g, x) :: r => if g = f then (g, v) :: r else (g, x) :: putF f v r
theorem lookup_putF (f g : Str) (v : V) : ∀ fs : List (Str × V), (putF f v fs).lookup g = if g = f then some v else fs.lookup g
  | [] => by
    show List.lookup g [(f, v)] = _
    by_cases h : g = f
    · have hb : (g == f) = true := beq_iff_eq.mpr h
      simp only [List.lookup, hb, if_pos h]
    · have hb : (g == f) = false := beq_eq_false_iff_ne.mpr h
      simp only [List.lookup, hb, if_neg h]
  | (k, x) :: r => by
    have ih := lookup_putF f g v r
    rw [show putF f v ((k, x) :: r) = (if k = f then (k, v) :: r else (k, x) :: putF f v r) from rfl]
    by_cases hk : k = f
    · rw [if_pos hk]
      by_cases h : g = k
      · have hb : (g == k) = true := beq_iff_eq.mpr h
        simp only [List.lookup, hb, if_pos (h.trans hk)]
      · have hb : (g == k) = false := beq_eq_false_iff_ne.mpr h
        simp only [List.lookup, hb, if_neg (fun e : g = f => h (e.trans hk.symm))]
    · rw [if_neg hk]
      by_cases h : g = k
      · have hb : (g == k) = true := beq_iff_eq.mpr h
        simp only [List.lookup, hb, if_neg (fun e : g = f => hk (h.symm.trans e))]
      · have hb : (g == k) = false := beq_eq_false_iff_ne.mpr h
        simp only [List.lookup, hb]
        exact ih
theorem keys_putF (f : Str) (v : V) : ∀ fs : List (Str × V), f ∈ (putF f v fs).map (·.1) ∧ ∀ g, g ∈ fs.map (·.1) → g ∈ (putF f v fs).map (·.1)
  | [] => ⟨by simp [putF], fun g h => by simp at h⟩
  | (k, x) :: r => by
    obtain ⟨i1, i2⟩ := keys_putF f v r
    rw [show putF f v ((k, x) :: r) = (if k = f then (k, v) :: r else (k, x) :: putF f v r) from rfl]
    by_cases hk : k = f
    · rw [if_pos hk]
      subst hk
      exact ⟨by simp, fun g h => by simpa using h⟩
    · rw [if_neg hk]
      refine ⟨?_, fun g h => ?_⟩
      · rw [List.map_cons]
        exact List.mem_cons_of_mem _ i1
      · rw [List.map_cons] at h ⊢
        rcases List.mem_cons.mp h with e | e
        · exact List.mem_cons.mpr (.inl e)
        · exact List.mem_cons_of_mem _ (i2 g e)
theorem length_putF (f : Str) (v : V) : ∀ fs : List (Str × V), (putF f v fs).length ≤ fs.length + 1
  | [] => by simp [putF]
  | (k, x) :: r => by
    have ih := length_putF f v r
    rw [show putF f v ((k, x) :: r) = (if k = f then (k, v) :: r else (k, x) :: putF f v r) from rfl]
    by_cases hk : k = f
    · rw [if_pos hk, List.length_cons, List.length_cons]; omega
    · rw [if_neg hk, List.length_cons, List.length_cons]; omega
theorem RelO.some_of {v : V} {o : Option Value} (r : RelO (some v) o) : ∃ u, o = some u ∧ RelV v u := by
  cases o with
  | none => exact (show False from r).elim
  | some u => exact ⟨u, rfl, r⟩
theorem RelO.none_of {o : Option Value} (r : RelO none o) : o = none := by
  cases o with
  | none => rfl
  | some u => exact (show False from r).elim
theorem handed_of {v : V} {u : Value} (r : RelV v u) : PySem.W.handedIn u = true := by
  cases v with
  | non => cases (show u = Value.none from r); rfl
  | bl b => cases (show u = Value.bool b from r); rfl
  | int i => obtain ⟨t, e⟩ := (show ∃ t, u = Value.int i t from r); cases e; rfl
  | str x => obtain ⟨t, e⟩ := (show ∃ t, u = Value.str x t from r); cases e; rfl
  | byt b => obtain ⟨t, e⟩ := (show ∃ t, u = Value.bytes b t from r); cases e; rfl
  | flt b => obtain ⟨t, e⟩ := (show ∃ t, u = Value.float b t from r); cases e; rfl
  | ref a => cases (show u = Value.ref a from r); rfl
  | ty n => cases (show u = Value.type n from r); rfl
section
variable {P : Program} {w : World} {H H' : Hp} {h h' : Heap} {a C dx : Addr} {fs fs' : List (Str × V)}
theorem ins_get (hok : HOk P w H h) (e : H a = some (.ins C dx fs)) : ∃ mA, ObjM h a dx C mA ∧ (∀ f, RelO (fs.lookup f) (mA f)) ∧ PySem.Within mA (fs.map (·.1)) ∧ fs.length ≤ 1000 ∧ H dx = some (.own a) := by
  obtain ⟨d, z, ne, ob, mA, n, r, q⟩ := (show ObjOk P w H h a (.ins C dx fs) from hok a _ e)
  exact ⟨mA, ⟨ob, n, ne⟩, r, q, z, d⟩
end
structure Cls (K : PySem.W.Frag) (C : Addr) : Prop where
  pg : PySem.W.plainGet K C Str.empty = true
  hd : PySem.W.hasDictIn K C = true
  po : PySem.W.plainOver K C = true
  sa : PySem.W.findIn K (.ref C) "__setattr__" = some (some (.builtin "object.__setattr__"))
theorem Cls.get {K : PySem.W.Frag} {C : Addr} (c : Cls K C) (f : Str) : PySem.W.plainGet K C f = true := c.pg
def NoAttr (K : PySem.W.Frag) (C : Addr) (f : Str) : Prop := PySem.W.findIn K (.ref C) f = some none
theorem NoAttr.taker {K : PySem.W.Frag} {C : Addr} {f : Str} (n : NoAttr K C f) : PySem.W.takerIn K C f = some none := by
  unfold PySem.W.takerIn
  rw [show PySem.W.findIn K (.ref C) f = some none from n]
  rfl
structure Meth (K : PySem.W.Frag) (C : Addr) (m : Str) (f : Addr) : Prop where
  at_ : PySem.W.findIn K (.ref C) m = some (some (.ref f))
  fn : PySem.W.isFn K (.ref f) = true
  kp : PySem.W.keepIn K (.ref f) = true
section
variable {X : Cx} {pins : List (Addr × Obj)} {σ : St} {H : Hp} {s : Shared} {a C dx : Addr} {fs : List (Str × V)} {f : Str} {v : V} {A : Around} {E : Value → Shared → Prop}
theorem getattr_ok {b : Bool} {Q : Value → Shared → Prop} (I : Inv X pins σ H s) (e : H a = some (.ins C dx fs)) (c : Cls X.K C) (n : NoAttr X.K C f) (l : fs.lookup f = some v)
    (h : ∀ u s', Inv X pins σ H s' → RelV v u → Q u s') : wpAny (model X.prog X.w) A (getAttr (.ref a) f b) Q E s := by
  obtain ⟨mA, O, r, _, _, _⟩ := ins_get I.hok e
  obtain ⟨u, hu, ru⟩ := RelO.some_of (v := v) (o := mA f) (by rw [← l]; exact r f)
  exact get_map I.kIn O (c.get f) c.hd n hu (handed_of ru) (h u _ (I.tok _) ru)
theorem getmeth_ok {m : Str} {g : Addr} {pl : Sem Bool} {Q : Value × List Value → Shared → Prop} (I : Inv X pins σ H s) (e : H a = some (.ins C dx fs)) (c : Cls X.K C) (k : Meth X.K C m g) (l : fs.lookup m = none)
    (h : Q (.ref g, [.ref a]) s) : wpAny (model X.prog X.w) A (getMethod (.ref a) m pl) Q E s := by
  obtain ⟨mA, O, r, _, _, _⟩ := ins_get I.hok e
  have hn : mA m = none := RelO.none_of (by rw [← l]; exact r m)
  exact get_meth I.kIn O (c.get m) k.at_ k.fn hn h
theorem setattr_ok {y : V} {u : Value} {Q : Unit → Shared → Prop} (I : Inv X pins σ H s) (e : H a = some (.ins C dx fs)) (c : Cls X.K C) (n : NoAttr X.K C f) (hl : fs.length < 1000) (ry : RelV y u)
    (h : ∀ s', Inv X pins σ (upd H a (.ins C dx (putF f y fs))) s' → Q () s') : wpAny (model X.prog X.w) A (setAttr (.ref a) f u) Q E s := by
  obtain ⟨mA, O, r, wi, _, ho⟩ := ins_get I.hok e
  have hz : (fs.map (·.1)).length ≤ sizeLine := by rw [List.length_map, sizeLine_eq]; omega
  refine set_map I.kIn O c.sa c.po n.taker c.hd wi hz fun h' O' sb => h _ ?_
  have hd : ∃ o, h'.get? dx = some o := let ⟨o, _, _, e', _⟩ := O'.ns; ⟨o, e'⟩
  refine I.write (x := a) (e := dx) (by rw [e]; exact True.intro) (.inr ho) (fun b q hb z => (sb.2 b hb).trans z) hd ?_
  refine ⟨by rw [upd_ne O.ne]; exact ho, ?_, O.ne, O'.obj, _, O'.ns, fun g => ?_, fun g hg => ?_⟩
  · have := length_putF f y fs; omega
  · show RelO ((putF f y fs).lookup g) (if g = f then some u else mA g)
    rw [lookup_putF]
    by_cases q : g = f
    · rw [if_pos q, if_pos q]; exact ry
    · rw [if_neg q, if_neg q]; exact r g
  · by_cases q : g = f
    · rw [q]; exact (keys_putF f y fs).1
    · refine (keys_putF f y fs).2 g (wi g fun z => hg ?_)
      show (if g = f then some u else mA g) = none
      rw [if_neg q]; exact z
theorem Inv.made (I : Inv X pins σ H s) : Inv X pins σ (upd (upd H s.heap.objs.size (.own (s.heap.objs.size + 1))) (s.heap.objs.size + 1) (.ins C s.heap.objs.size []))
    { s with heap := (s.heap.push PySem.W.emptyDict).push (PySem.W.instObj C s.heap.objs.size) } := by
  have e1 : (s.heap.push PySem.W.emptyDict).get? s.heap.objs.size = some PySem.W.emptyDict := Heap.get?_push_size s.heap rfl
  have e2 : ((s.heap.push PySem.W.emptyDict).push (PySem.W.instObj C s.heap.objs.size)).get? (s.heap.objs.size + 1) = some (PySem.W.instObj C s.heap.objs.size) := by
    have := Heap.get?_push_size (s.heap.push PySem.W.emptyDict) (o := PySem.W.instObj C s.heap.objs.size) rfl
    rwa [Heap.size_push] at this
  have e3 : (s.heap.push PySem.W.emptyDict).Ns s.heap.objs.size (fun _ => none) := ⟨PySem.W.emptyDict, #[], _, e1, rfl, (fun e he => absurd he (by simp)), fun _ => rfl⟩
  have I1 := I.laid (a := s.heap.objs.size) (o := .own (s.heap.objs.size + 1)) (h' := s.heap.push PySem.W.emptyDict) (t' := s.toks) (fun b u q => Heap.get?_push_of_some _ q) (Nat.le_refl _) ⟨_, e1⟩
  refine I1.laid (a := s.heap.objs.size + 1) (o := .ins C s.heap.objs.size []) (t' := s.toks) (fun b u q => Heap.get?_push_of_some _ q) (Nat.le_of_eq (Heap.size_push _ _)) ?_
  have ne : s.heap.objs.size ≠ s.heap.objs.size + 1 := Nat.ne_of_lt (Nat.lt_succ_self _)
  refine ⟨by rw [upd_ne ne, upd_same], Nat.zero_le _, ne, e2, fun _ => none, (Heap.Ns1.of_empty e3).at fun o q => Heap.get?_push_of_some _ q, fun _ => True.intro, fun y hy => absurd rfl hy⟩
theorem attr_of {prog : Program} {w : World} {env : Env} {e : Expr} {f : Str} {pos : Pos} {s : Shared} {Q : Value → Shared → Prop} (hb : attributeBase e f env (eval e env) = eval e env)
    (h : wpAny (model prog w) A (eval e env) (fun o s₁ => wpAny (model prog w) A (getAttr o f true) Q E s₁) E s) : wpAny (model prog w) A (eval (.Attribute e f pos) env) Q E s :=
  Attribute_any_ h (by rw [arm_eval_Attribute, hb])
end
def tFld (K : PySem.W.Frag) (ta : TE) (f : Str) : TE := fun σ H Q => ta σ H fun x H1 => ∃ a C dx fs v, x = .ref a ∧ H1 a = some (.ins C dx fs) ∧ Cls K C ∧ NoAttr K C f ∧ fs.lookup f = some v ∧ Q v H1
def sFld (K : PySem.W.Frag) (ta tv : TE) (f : Str) : TS := fun D σ H => tv σ H fun y H1 => ta σ H1 fun x H2 => ∃ a C dx fs, x = .ref a ∧ H2 a = some (.ins C dx fs) ∧ Cls K C ∧ NoAttr K C f ∧ fs.length < 1000 ∧
  D.nx σ (upd H2 a (.ins C dx (putF f y fs)))
section
variable {X : Cx} {o e value : Expr} {f : Str} {pos pos' tpos : Pos} {ta tv : TE}
theorem pe_fld (he : PE X e ta) (hb : attributeBase e f X.env (eval e X.env) = eval e X.env) : PE X (.Attribute e f pos) (tFld X.K ta f) := by
  intro pins s σ H Q I h
  refine attr_of hb (thn (he pins s σ H _ I h) fun u s1 ⟨x, H1, I1, rx, a, C, dx, fs, v, ex, ea, c, n, l, q⟩ => ?_)
  subst ex
  obtain rfl : u = Value.ref a := rx
  exact getattr_ok I1 ea c n l fun u' s2 I2 ru => ⟨v, H1, I2, ru, q⟩
theorem ps_fld (ha : PE X o ta) (hv : PE X value tv) (hs : swapsWith value (some (.Attribute o f pos')) pos.line X.env = pure false) : PS X (.Assign [.Attribute o f pos'] value pos) (sFld X.K ta tv f) := by
  intro pins s σ H D I h
  refine plainObj_wpAny_Assign_Attribute (thn (hv pins s σ H _ I h) fun u s1 ⟨y, H1, I1, ry, q⟩ => thn (ha pins s1 σ H1 _ I1 q) fun ov s2 ⟨x, H2, I2, rx, a, C, dx, fs, ex, ea, c, n, l, q2⟩ => ?_) hs
  subst ex
  obtain rfl : ov = Value.ref a := rx
  exact setattr_ok I2 ea c n l ry fun s3 I3 => ⟨σ, _, I3, q2⟩
end
section
variable {X : Cx} {pins : List (Addr × Obj)} {σ : St} {H : Hp} {s : Shared} {A : Around} {E : Value → Shared → Prop} {Q : Value → Shared → Prop} {c : Value} {b : Bool}
inductive TyOf (K : PySem.W.Frag) (H : Hp) : V → Value → Prop where
  | non : TyOf K H .non (.type "NoneType")
  | bl (x : Bool) : TyOf K H (.bl x) (.type "bool")
  | int (i : Int) : TyOf K H (.int i) (.type "int")
  | str (x : Str) : TyOf K H (.str x) (.type "str")
  | flt (x : UInt64) : TyOf K H (.flt x) (.type "float")
  | lst {a : Addr} {xs : List V} (e : H a = some (.lst xs)) : TyOf K H (.ref a) (.type "list")
  | frz {a : Addr} {o : Obj} {xs : List V} (e : H a = some (.frz o (.lst xs))) : TyOf K H (.ref a) (.type "list")
  | tup {a : Addr} {xs : List V} (e : H a = some (.tup xs)) : TyOf K H (.ref a) (.type "tuple")
  | dK {a : Addr} {kvs : List (Key × V)} (e : H a = some (.dK kvs)) : TyOf K H (.ref a) (.type "dict")
  | dT {a : Addr} {kvs : List (List Key × V)} (e : H a = some (.dT kvs)) : TyOf K H (.ref a) (.type "dict")
  | ins {a C dx : Addr} {fs : List (Str × V)} (e : H a = some (.ins C dx fs)) (cl : Cls K C) (ha : PySem.W.findIn K (.ref C) "__class__" = some (some (.builtin "object.__class__")))
      (hn : PySem.W.specialIn K (.builtin "object.__class__") "__get__" = some (some (.builtin "getset_descriptor.__get__"))) (htk : PySem.W.takesIn K (.builtin "object.__class__") = some true)
      (hm : PySem.W.mroIn K C (.type "object") = some true) : TyOf K H (.ref a) (.ref C)
theorem isinst_ok {x : V} {u t : Value} (I : Inv X pins σ H s) (rx : RelV x u) (ty : TyOf X.K H x t) (e : PySem.W.kitOne X.K t c = some b) (h : ∀ tk, Q (.bool b) { s with toks := tk }) :
    wpAny (model X.prog X.w) A (call (.builtin "isinstance") [u, c]) Q E s := by
  cases ty with
  | non => cases (show u = Value.none from rx); exact PySem.W.kia_one PySem.W.kitx_none I.kIn True.intro e (fun z => nomatch z) h
  | bl y => cases (show u = Value.bool y from rx); exact PySem.W.kia_one PySem.W.kitx_bool I.kIn True.intro e (fun z => nomatch z) h
  | int i => obtain ⟨t, q⟩ := (show ∃ t, u = Value.int i t from rx); cases q; exact PySem.W.kia_one PySem.W.kitx_int I.kIn True.intro e (fun z => nomatch z) h
  | str y => obtain ⟨t, q⟩ := (show ∃ t, u = Value.str y t from rx); cases q; exact PySem.W.kia_one PySem.W.kitx_str I.kIn True.intro e (fun z => nomatch z) h
  | flt y => obtain ⟨t, q⟩ := (show ∃ t, u = Value.float y t from rx); cases q; exact PySem.W.kia_one PySem.W.kitx_float I.kIn True.intro e (fun z => nomatch z) h
  | @lst a xs ea =>
    cases (show u = Value.ref a from rx)
    obtain ⟨_, _, n, _, h1⟩ := (show ObjOk X.prog X.w H s.heap a (.lst xs) from I.hok a _ ea)
    exact PySem.W.kia_one PySem.W.kitx_list I.kIn ⟨_, h1, rfl⟩ e (fun z => nomatch z) h
  | @frz a ob xs ea =>
    cases (show u = Value.ref a from rx)
    obtain ⟨_, _, _, n, _, h1⟩ := (show ObjOk X.prog X.w H s.heap a (.frz ob (.lst xs)) from I.hok a _ ea)
    exact PySem.W.kia_one PySem.W.kitx_list I.kIn ⟨_, h1, rfl⟩ e (fun z => nomatch z) h
  | @tup a xs ea =>
    cases (show u = Value.ref a from rx)
    obtain ⟨_, _, _, p⟩ := (show ObjOk X.prog X.w H s.heap a (.tup xs) from I.hok a _ ea)
    obtain ⟨o, h1, h2, _⟩ := p
    exact PySem.W.kia_one PySem.W.kitx_tuple I.kIn ⟨o, h1, h2⟩ e (fun z => nomatch z) h
  | @dK a kvs ea =>
    cases (show u = Value.ref a from rx)
    obtain ⟨_, _, vs, _, p⟩ := (show ObjOk X.prog X.w H s.heap a (.dK kvs) from I.hok a _ ea)
    obtain ⟨o, es, ep, h1, h2, _⟩ := p
    exact PySem.W.kia_one PySem.W.kitx_dict I.kIn ⟨o, h1, h2.1⟩ e (fun z => nomatch z) h
  | @dT a kvs ea =>
    cases (show u = Value.ref a from rx)
    obtain ⟨_, _, xs, _, o, es, ep, h1, h2, _⟩ := (show ObjOk X.prog X.w H s.heap a (.dT kvs) from I.hok a _ ea)
    exact PySem.W.kia_one PySem.W.kitx_dict I.kIn ⟨o, h1, h2.1⟩ e (fun z => nomatch z) h
  | @ins a C dx fs ea cl ha hn htk hm =>
    cases (show u = Value.ref a from rx)
    obtain ⟨mA, O, _⟩ := ins_get I.hok ea
    obtain ⟨od, J, _⟩ := O.look
    exact PySem.W.kia_one (PySem.W.kitx_own (cl.get _) cl.hd ha hn htk hm) I.kIn J e (fun z => nomatch z) h
end
end L2
namespace L2
open PySem PySem.Spec PyProof.Rows
structure Room (k : Nat) (A : Around) : Prop where
  hd : A.handled = none
  dp : A.depth + 3 * k + 5 < recursionLimit
  un : A.units + 16 * k + 200 < cLine
theorem Room.mono {j k : Nat} {A : Around} (r : Room k A) (h : j ≤ k) : Room j A := ⟨r.hd, by have := r.dp; omega, by have := r.un; omega⟩
theorem Room.deeper {k : Nat} {A : Around} (r : Room (k + 1) A) (env : Env) : Room k (A.deeper env) :=
  ⟨r.hd, by have := r.dp; show A.depth + 1 + 3 * k + 5 < _; omega, by have := r.un; show A.units + 3 + 16 * k + 200 < _; omega⟩
theorem make_depth {A : Around} {C : Addr} {us : List Value} {kw : List (Str × Value)} : (A.under (.builtin "type.__call__" ⟨.ref C :: us, kw⟩)).depth = A.depth + 1 := by
  first | rfl | simp [Around.under, Code.weight, Code.isCreation, Code.isGuard, Code.isCaller, Code.frames, Code.isFrame, guardIds]
theorem make_units {A : Around} {C : Addr} {us : List Value} {kw : List (Str × Value)} : (A.under (.builtin "type.__call__" ⟨.ref C :: us, kw⟩)).units = A.units + 1 := by
  first | rfl | simp [Around.under, Code.cUnits, Code.frames, Code.isFrame]
theorem Room.make {k : Nat} {A : Around} (r : Room (k + 1) A) (C : Addr) (us : List Value) (kw : List (Str × Value)) : Room k (A.under (.builtin "type.__call__" ⟨.ref C :: us, kw⟩)) :=
  ⟨r.hd, by have := r.dp; rw [make_depth]; omega, by have := r.un; rw [make_units]; omega⟩
theorem Room.depth {k : Nat} {A : Around} (r : Room k A) : A.depth < recursionLimit := by have := r.dp; omega
theorem Room.units {k : Nat} {A : Around} (r : Room k A) : A.units + 64 < cLine := by have := r.un; omega
theorem Room.units0 {k : Nat} {A : Around} (r : Room k A) : A.units < cLine := by have := r.un; omega
def tNil : TA := fun _ H Q => Q [] H
def tCons (ta : TE) (tr : TA) : TA := fun σ H Q => ta σ H fun x H1 => tr σ H1 fun xs H2 => Q (x :: xs) H2
section
variable {X : Cx} {e : Expr} {es : List Expr} {te : TE} {t : TA} {pos : Pos}
theorem pa_nil : PA X [] tNil := fun _ _ _ _ H Q I h => Calls.spliced_nil ⟨[], H, I, .nil, h⟩
theorem pa_cons (ha : PE X e te) (hr : PA X es t) (hs : starEach (e :: es) X.env = (false, eval e X.env) :: starEach es X.env := by rfl) : PA X (e :: es) (tCons te t) := by
  intro pos pins s σ H Q I h
  rw [hs]
  show wpAny _ _ (spliced ((false, eval e X.env) :: backTo pos (starEach es X.env))) _ _ s
  refine Calls.spliced_cons (thn (ha pins s σ H _ I h) fun u s1 ⟨x, H1, I1, r1, q1⟩ => ?_)
  exact thn (hr pos pins s1 σ H1 _ I1 q1) fun us s2 ⟨xs, H2, I2, r2, q2⟩ => ⟨x :: xs, H2, I2, .cons r1 r2, q2⟩
def tTup (t : TA) : TE := fun σ H Q => t σ H fun xs H1 => xs.length ≤ sizeLine ∧ ∀ p, H1 p = none → Q (.ref p) (upd H1 p (.tup xs))
def tLst (t : TA) : TE := fun σ H Q => t σ H fun xs H1 => xs.length ≤ sizeLine ∧ ∀ p, H1 p = none → Q (.ref p) (upd H1 p (.lst xs))
theorem pe_tup {x1} (h : PA X es t) : PE X (.Tuple es x1 pos) (tTup t) := by
  intro pins s σ H Q I hq
  refine wpAny_Tuple_spliced (thn (h pos pins s σ H _ I hq) fun us s1 ⟨xs, H1, I1, r, z, q⟩ => ⟨by rw [← r.length]; exact z, ?_⟩)
  have hf : H1 s1.heap.objs.size = none := I1.hok.fresh (Nat.le_refl _)
  refine ⟨.ref s1.heap.objs.size, upd H1 s1.heap.objs.size (.tup xs), I1.laid (t' := s1.toks) (fun b u e => Heap.get?_push_of_some _ e) (Nat.le_refl _) ?_, rfl, q _ hf⟩
  exact ⟨z, us, r, ⟨_, Heap.get?_push_size _ rfl, rfl, _, rfl⟩⟩
theorem pe_lst (h : PA X es t) : PE X (.List es pos) (tLst t) := by
  intro pins s σ H Q I hq
  refine wpAny_List_spliced (thn (h pos pins s σ H _ I hq) fun us s1 ⟨xs, H1, I1, r, z, q⟩ => ⟨by rw [← r.length]; exact z, ?_⟩)
  have hf : H1 s1.heap.objs.size = none := I1.hok.fresh (Nat.le_refl _)
  refine ⟨.ref s1.heap.objs.size, upd H1 s1.heap.objs.size (.lst xs), I1.laid (t' := s1.toks) (fun b u e => Heap.get?_push_of_some _ e) (Nat.le_refl _) ?_, rfl, q _ hf⟩
  exact ⟨z, us, 0, r, Heap.get?_push_size _ rfl⟩
end
abbrev Sp := List V → Hp → VK → XK → Prop
abbrev CXT := List Env → Hp → Shared → XK → Value → Shared → Prop
structure Env0 (P : Program) (w : World) (K : PySem.W.Frag) (mg : Str → Option Value) (base : Heap) (A : Around) (outer : List Env) (s : Shared) (H : Hp) : Prop where
  frames : A.frames = some outer
  mod : Mod K mg base
  bs : ∀ b o, base.get? b = some o → s.heap.get? b = some o ∧ H b = none
  bsz : base.objs.size ≤ s.heap.objs.size
  funs : s.heap.FunFrames base outer
  frf : ∀ b ∈ frs outer, H b = none
  hok : HOk P w H s.heap
  bare : AllBare s.gens
def CE (outer : List Env) (P : Program) (w : World) (H : Hp) (s : Shared) (Q : VK) (u : Value) (s' : Shared) : Prop :=
  ∃ v H', s'.os = s.os ∧ AllBare s'.gens ∧ Un (frs outer) [] H H' s.heap s'.heap ∧ HOk P w H' s'.heap ∧ RelV v u ∧ Q v H'
def CR (CX : CXT) (outer : List Env) (P : Program) (w : World) (H : Hp) (s : Shared) (Q : VK) (E : XK) (r : Result) (s' : Shared) : Prop :=
  match r with
  | .ok (.ret u) => CE outer P w H s Q u s'
  | .ok _ => False
  | .error e => CX outer H s E e s'
structure FnOk (P : Program) (w : World) (K : PySem.W.Frag) (mg : Str → Option Value) (base : Heap) (CX : CXT) (k : Nat) (f : Addr) (fd : FuncData) (ps : List Str) (sp : Sp) : Prop where
  len : ∀ vs H Q E, sp vs H Q E → vs.length = ps.length
  run : ∀ (A : Around) (outer : List Env) (s : Shared) (H : Hp) (args : Args) (us : List Value) (vs : List V) (Q : VK) (E : XK), Room k A → Env0 P w K mg base A outer s H → BindsTo s fd args (ps.zip us) → Vals vs us → sp vs H Q E →
    codeAny (model P w) A (.call (.ref f) args) (CR CX outer P w H s Q E) s
theorem Env0.make {P : Program} {w : World} {K : PySem.W.Frag} {mg : Str → Option Value} {base : Heap} {A : Around} {outer : List Env} {s : Shared} {H : Hp} (e : Env0 P w K mg base A outer s H) (C : Addr) (us : List Value) (kw : List (Str × Value)) :
    Env0 P w K mg base (A.under (.builtin "type.__call__" ⟨.ref C :: us, kw⟩)) outer s H := ⟨by first | exact e.frames | (simpa [Around.under, Code.envs, Code.isFrame, pushEnvs] using e.frames), e.mod, e.bs, e.bsz, e.funs, e.frf, e.hok, e.bare⟩
section
variable {X : Cx} {pins : List (Addr × Obj)} {σ : St} {H : Hp} {s s' : Shared}
theorem Inv.env0 (I : Inv X pins σ H s) : Env0 X.prog X.w X.K X.mg X.base X.A X.stack s H :=
  ⟨I.ok.frames, I.ok.mod, I.bs, Nat.le_trans I.ok.bsz I.sz, I.stack, I.stkFree, I.hok, I.bare⟩
theorem Inv.after {Q : VK} {u : Value} (I : Inv X pins σ H s) (h : CE X.stack X.prog X.w H s Q u s') : EP X pins σ Q u s' := by
  obtain ⟨v, H', os, bare, un, hok, r, q⟩ := h
  obtain ⟨hh, g, d, t, os'⟩ := s'
  obtain rfl : os' = s.os := os
  exact ⟨v, H', I.call (h' := hh) (g' := g) (d' := d) (t' := t) (ch := []) un hok bare (fun b z => absurd z (by simp)), r, q⟩
end
def tCall (sp : Sp) (dvs : List V) (E : XK) (t : TA) : TE := fun σ H Q => t σ H fun vs H1 => sp (vs ++ dvs) H1 Q E
def tMeth (C : Addr) (m : Str) (sp : Sp) (dvs : List V) (E : XK) (ta : TE) (t : TA) : TE := fun σ H Q => ta σ H fun x H1 => ∃ a dx fs, x = .ref a ∧ H1 a = some (.ins C dx fs) ∧ fs.lookup m = none ∧
  t σ H1 fun vs H2 => sp (x :: (vs ++ dvs)) H2 Q E
def tMake (C : Addr) (sp : Sp) (dvs : List V) (E : XK) (t : TA) : TE := fun σ H Q => t σ H fun vs H1 => ∀ x dx, H1 x = none → H1 dx = none → dx ≠ x →
  sp (.ref x :: (vs ++ dvs)) (upd (upd H1 dx (.own x)) x (.ins C dx [])) (fun v H2 => v = .non ∧ Q (.ref x) H2) E
def Binds (K : PySem.W.Frag) (fd : FuncData) (ps : List Str) (ds : List Value) : Prop :=
  ∀ (s : Shared) (us : List Value), K.In s.heap → (us ++ ds).length = ps.length → BindsTo s fd ⟨us, []⟩ (ps.zip (us ++ ds))
theorem Binds.all {K : PySem.W.Frag} {fd : FuncData} {ps : List Str} (h : ∀ us : List Value, us.length = ps.length → bindArgs fd ⟨us, []⟩ = pure (ps.zip us)) : Binds K fd ps [] := fun s us _ hl => by
  rw [List.append_nil] at hl ⊢
  exact .of_eq (h us hl)
def Passes (CX : CXT) (X : Cx) (E : XK) : Prop := ∀ (pins : List (Addr × Obj)) (σ : St) (H : Hp) (s : Shared) (e : Value) (s' : Shared), Inv X pins σ H s → CX X.stack H s E e s' → X.xe e s'
section
variable {X : Cx} {CX : CXT} {k : Nat} {f C : Addr} {fd : FuncData} {ps : List Str} {sp : Sp} {dvs : List V} {ds : List Value} {E : XK} {x m : Str} {p pos apos : Pos} {e o : Expr} {es : List Expr} {ta : TE} {t : TA}
theorem run_fn {pins : List (Addr × Obj)} {σ : St} {H : Hp} {s : Shared} {Q : VK} {us : List Value} {vs : List V} (F : FnOk X.prog X.w X.K X.mg X.base CX k f fd ps sp) (hr : Room k X.A) (hb : Binds X.K fd ps ds) (hd : Vals dvs ds) (hx : Passes CX X E)
    (I : Inv X pins σ H s) (r : Vals vs us) (h : sp (vs ++ dvs) H Q E) : wpAny (model X.prog X.w) X.A (call (.ref f) us) (EP X pins σ Q) X.xe s := by
  have r2 : Vals (vs ++ dvs) (us ++ ds) := r.append hd
  have hl : (us ++ ds).length = ps.length := by rw [← r2.length]; exact F.len _ _ _ _ h
  refine wpAny_call (codeAny_mono (F.run X.A X.stack s H ⟨us, []⟩ (us ++ ds) (vs ++ dvs) Q E hr I.env0 (hb s us I.kIn hl) r2 h) fun r s' hq => ?_)
  cases r with
  | error e => exact hx pins σ H s e s' I hq
  | ok fl =>
    cases fl with
    | ret u => exact I.after hq
    | next => exact False.elim hq
    | brk => exact False.elim hq
    | cont => exact False.elim hq
theorem pe_call (F : FnOk X.prog X.w X.K X.mg X.base CX k f fd ps sp) (hr : Room k X.A) (hg : Gl X x) (hm : X.mg x = some (.ref f)) (hk : PySem.W.keepIn X.K (.ref f) = true) (hb : Binds X.K fd ps ds) (hd : Vals dvs ds) (hx : Passes CX X E)
    (ha : PA X (e :: es) t) (hdb : (x == ("__debug__" : Str)) = false := by decide) (he : starEach (e :: es) X.env = (false, eval e X.env) :: starEach es X.env := by rfl) (hpl : (backTo pos (starEach es X.env)).any (·.1) = false := by rfl) :
    PE X (.Call (.Name x p) (e :: es) [] pos) (tCall sp dvs E t) := by
  intro pins s σ H Q I h
  refine wpAny_Call_Name_kw (ld_glob I hg hm ?_ hdb)
  refine PySem.W.callWith_K (h₀ := X.base) I.ok.mod.kin hk (thn (ha pos pins s σ H _ I h) fun us s1 ⟨vs, H1, I1, r, q⟩ => ⟨I1.kIn, ?_⟩) he hpl
  exact run_fn F hr hb hd hx I1 r q
theorem pe_meth {pl : Sem Bool} (he : PE X o ta) (c : Cls X.K C) (hm : Meth X.K C m f) (F : FnOk X.prog X.w X.K X.mg X.base CX k f fd ps sp) (hr : Room k X.A) (hb : Binds X.K fd ps ds) (hd : Vals dvs ds) (hx : Passes CX X E) (ha : PA X (e :: es) t)
    (hst : starEach (e :: es) X.env = (false, eval e X.env) :: starEach es X.env := by rfl) (hpl : (backTo pos (starEach es X.env)).any (·.1) = false := by rfl)
    (ht : eval (.Call (.Attribute o m apos) (e :: es) [] pos) X.env = (do
      let ov ← eval o X.env
      standAt apos.atName
      let (f, first) ← holding [ov] (getMethod ov m pl)
      callWith pos f first (backTo pos (starEach (e :: es) X.env)) (backToKw pos (keywordEach [] X.env))) := by rfl) :
    PE X (.Call (.Attribute o m apos) (e :: es) [] pos) (tMeth C m sp dvs E ta t) := by
  intro pins s σ H Q I h
  refine PySem.W.methodCall_KW (pl := pl) (thn (he pins s σ H _ I h) fun u s1 ⟨x, H1, I1, rx, a, dx, fs, ex, ea, l, q⟩ => ?_) ht
  subst ex
  obtain rfl : u = Value.ref a := rx
  refine getmeth_ok I1 ea c hm l ?_
  refine PySem.W.callWith_K (first := [.ref a]) (h₀ := X.base) I.ok.mod.kin hm.kp (thn (ha pos pins s1 σ H1 _ I1 q) fun us s2 ⟨vs, H2, I2, r, q2⟩ => ⟨I2.kIn, ?_⟩) hst hpl
  exact run_fn (us := .ref a :: us) (vs := .ref a :: vs) F hr hb hd hx I2 (.cons rfl r) q2
theorem pe_meth0 {pl : Sem Bool} (he : PE X o ta) (c : Cls X.K C) (hm : Meth X.K C m f) (F : FnOk X.prog X.w X.K X.mg X.base CX k f fd ps sp) (hr : Room k X.A) (hb : Binds X.K fd ps ds) (hd : Vals dvs ds) (hx : Passes CX X E)
    (ht : eval (.Call (.Attribute o m apos) [] [] pos) X.env = (do
      let ov ← eval o X.env
      standAt apos.atName
      let (f, first) ← holding [ov] (getMethod ov m pl)
      callWith pos f first (backTo pos (starEach [] X.env)) (backToKw pos (keywordEach [] X.env))) := by rfl) :
    PE X (.Call (.Attribute o m apos) [] [] pos) (tMeth C m sp dvs E ta tNil) := by
  intro pins s σ H Q I h
  refine PySem.W.methodCall_KW (pl := pl) (thn (he pins s σ H _ I h) fun u s1 ⟨x, H1, I1, rx, a, dx, fs, ex, ea, l, q⟩ => ?_) ht
  subst ex
  obtain rfl : u = Value.ref a := rx
  refine getmeth_ok I1 ea c hm l ?_
  exact PySem.W.callWith_K0 (first := [.ref a]) I1.kIn hm.kp (run_fn (us := [.ref a]) (vs := [.ref a]) F hr hb hd hx I1 (.cons rfl .nil) q)
structure Mk (K : PySem.W.Frag) (C f : Addr) : Prop where
  makes : PySem.W.makesIn K C = true
  init : PySem.W.findIn K (.ref C) "__init__" = some (some (.ref f))
  fn : PySem.W.isFn K (.ref f) = true
  kp : PySem.W.keepIn K (.ref C) = true
theorem run_make {pins : List (Addr × Obj)} {σ : St} {H : Hp} {s : Shared} {Q : VK} {us : List Value} {vs : List V} (M : Mk X.K C f) (F : FnOk X.prog X.w X.K X.mg X.base CX k f fd ps sp) (hr : Room (k + 1) X.A) (hb : Binds X.K fd ps ds) (hd : Vals dvs ds)
    (hx : Passes CX X E) (I : Inv X pins σ H s) (r : Vals vs us)
    (h : ∀ x dx, H x = none → H dx = none → dx ≠ x → sp (.ref x :: (vs ++ dvs)) (upd (upd H dx (.own x)) x (.ins C dx [])) (fun v H2 => v = .non ∧ Q (.ref x) H2) E) :
    wpAny (model X.prog X.w) X.A (call (.ref C) us) (EP X pins σ Q) X.xe s := by
  have hq := h (s.heap.objs.size + 1) s.heap.objs.size (I.hok.fresh (Nat.le_succ _)) (I.hok.fresh (Nat.le_refl _)) (Nat.ne_of_lt (Nat.lt_succ_self _))
  have I2 := Inv.made (C := C) I
  have r2 : Vals (V.ref (s.heap.objs.size + 1) :: (vs ++ dvs)) (Value.ref (s.heap.objs.size + 1) :: (us ++ ds)) := .cons rfl (r.append hd)
  have hl : (Value.ref (s.heap.objs.size + 1) :: us ++ ds).length = ps.length := by
    have e := r2.length
    rw [F.len _ _ _ _ hq] at e
    exact e.symm
  refine wpAny_call (make_map (f := f) I.kIn M.makes M.init (beq_iff_eq.mp M.fn) (codeAny_mono (F.run _ X.stack _ _ ⟨Value.ref (s.heap.objs.size + 1) :: us, []⟩ (Value.ref (s.heap.objs.size + 1) :: (us ++ ds)) _ _ E (hr.make C us [])
    (I2.env0.make C us []) (hb _ (Value.ref (s.heap.objs.size + 1) :: us) I2.kIn hl) r2 hq) fun r s' hq' => ?_))
  cases r with
  | error e => exact hx pins σ _ _ e s' I2 hq'
  | ok fl =>
    cases fl with
    | ret u =>
      obtain ⟨v, H', I3, rv, ev, q3⟩ := I2.after hq'
      subst ev
      exact ⟨rv, ⟨V.ref (s.heap.objs.size + 1), H', I3, rfl, q3⟩⟩
    | next => exact False.elim hq'
    | brk => exact False.elim hq'
    | cont => exact False.elim hq'
theorem pe_make0 (M : Mk X.K C f) (F : FnOk X.prog X.w X.K X.mg X.base CX k f fd ps sp) (hr : Room (k + 1) X.A) (hg : Gl X x) (hm : X.mg x = some (.ref C)) (hb : Binds X.K fd ps ds) (hd : Vals dvs ds) (hx : Passes CX X E)
    (hdb : (x == ("__debug__" : Str)) = false := by decide) : PE X (.Call (.Name x p) [] [] pos) (tMake C sp dvs E tNil) := by
  intro pins s σ H Q I h
  refine wpAny_Call_Name_kw (ld_glob I hg hm ?_ hdb)
  exact PySem.W.callWith_K0 I.kIn M.kp (run_make (us := []) M F hr hb hd hx I .nil h)
end
section
variable {X : Cx} {CX : CXT} {k : Nat} {f C : Addr} {fd : FuncData} {ps ks : List Str} {sp : Sp} {E : XK} {x m : Str} {p pos apos kpos : Pos} {e o : Expr} {es : List Expr} {kws : List Keyword} {te ta : TE} {t tk : TA} {nm : Option Str}
variable {g : List Value → List Value → List Value} {gV : List V → List V → List V}
end
structure FnScope (N P : List Str) (sc : Scope) : Prop where
  kind : sc.kind = .function
  co : sc.isCoroutine = false
  gen : sc.isGenerator = false
  nd : N.Nodup
  pre : N.take P.length = P
  par : ∀ x ∈ P, sc.names.lookup x = some .local ∨ sc.names.lookup x = some .cell
  nofree : ∀ y ∈ sc.names, y.2 ≠ .free
theorem bindL_out {kindOf : Str → Option NameKind} {x : Str} : ∀ {binds : List (Str × Value)} {m : Str → Option Value}, (∀ v, (x, v) ∉ binds) → bindL kindOf binds m x = m x
  | [], _, _ => rfl
  | (n, v) :: r, m, h => by
    unfold bindL
    rw [bindL_out fun w hw => h w (List.mem_cons_of_mem _ hw)]
    split
    · have : x ≠ n := by rintro rfl; exact h v List.mem_cons_self
      simp [this]
    · rfl
theorem bindC_out {kindOf : Str → Option NameKind} {x : Str} : ∀ {binds : List (Str × Value)} {m : Str → Option Value}, (∀ v, (x, v) ∉ binds) → bindC kindOf binds m x = m x
  | [], _, _ => rfl
  | (n, v) :: r, m, h => by
    unfold bindC
    rw [bindC_out fun w hw => h w (List.mem_cons_of_mem _ hw)]
    split
    · rfl
    · have : x ≠ n := by rintro rfl; exact h v List.mem_cons_self
      simp [this]
theorem bindL_get {kindOf : Str → Option NameKind} {x : Str} {v : Value} : ∀ {P : List Str} {vs : List Value} {i : Nat} {m : Str → Option Value}, P.Nodup → P[i]? = some x → vs[i]? = some v → kindOf x = some .local →
    bindL kindOf (P.zip vs) m x = some v
  | [], _, _, _, _, h, _, _ => by simp at h
  | _ :: _, [], _, _, _, _, h, _ => by simp at h
  | p :: P, w :: vs, 0, m, nd, h1, h2, hk => by
    simp at h1 h2; subst h1; subst h2
    show bindL kindOf ((p, w) :: P.zip vs) m p = _
    unfold bindL
    rw [bindL_out fun v hv => (List.nodup_cons.mp nd).1 (List.of_mem_zip hv).1, if_pos hk]
    simp
  | p :: P, w :: vs, i + 1, m, nd, h1, h2, hk => by
    show bindL kindOf ((p, w) :: P.zip vs) m x = _
    unfold bindL
    exact bindL_get (i := i) (List.nodup_cons.mp nd).2 (by simpa using h1) (by simpa using h2) hk
theorem bindC_get {kindOf : Str → Option NameKind} {x : Str} {v : Value} : ∀ {P : List Str} {vs : List Value} {i : Nat} {m : Str → Option Value}, P.Nodup → P[i]? = some x → vs[i]? = some v → kindOf x ≠ some .local →
    bindC kindOf (P.zip vs) m x = some v
  | [], _, _, _, _, h, _, _ => by simp at h
  | _ :: _, [], _, _, _, _, h, _ => by simp at h
  | p :: P, w :: vs, 0, m, nd, h1, h2, hk => by
    simp at h1 h2; subst h1; subst h2
    show bindC kindOf ((p, w) :: P.zip vs) m p = _
    unfold bindC
    rw [bindC_out fun v hv => (List.nodup_cons.mp nd).1 (List.of_mem_zip hv).1, if_neg hk]
    simp
  | p :: P, w :: vs, i + 1, m, nd, h1, h2, hk => by
    show bindC kindOf ((p, w) :: P.zip vs) m x = _
    unfold bindC
    exact bindC_get (i := i) (List.nodup_cons.mp nd).2 (by simpa using h1) (by simpa using h2) hk
def start (N : List Str) (vs : List V) : St := vs.map some ++ List.replicate (N.length - vs.length) none
def cxOf (CX : CXT) (P : Program) (w : World) (K : PySem.W.Frag) (mg : Str → Option Value) (base : Heap) (N : List Str) (qual : Str) (scope : Scope) (f : Addr) (cd : Value) (A : Around) (outer : List Env) (s : Shared) (H : Hp) (E : XK) : Cx where
  prog := P
  w := w
  K := K
  mg := mg
  base := base
  A := A.deeper (envOfC qual scope s.heap.objs.size f cd)
  N := N
  s₀ := s
  H₀ := H
  env := envOfC qual scope s.heap.objs.size f cd
  outer := outer
  stack := envOfC qual scope s.heap.objs.size f cd :: outer
  ex := []
  calm := true
  fn := fun _ => true
  pn := []
  xe := fun e s' => wpAny (model P w) (A.deeper (envOfC qual scope s.heap.objs.size f cd)) (leaving (envOfC qual scope s.heap.objs.size f cd) e) (fun _ s'' => CX outer H s E e s'') (fun e' s'' => CX outer H s E e' s'') s'
theorem cell_has {sc : Scope} {n : Nat} {x : Str} (h : sc.names.lookup x = some .cell) : ∃ c, (cellsFrom n sc.names []).lookup x = some c := by
  have q := PySem.W.cellsFrom_some sc.names n [] (.inl h)
  exact Option.isSome_iff_exists.mp q
theorem inv_start {CX : CXT} {P : Program} {w : World} {K : PySem.W.Frag} {mg : Str → Option Value} {base : Heap} {N ps : List Str} {qual : Str} {scope : Scope} {f : Addr} {cd : Value} {A : Around} {outer : List Env} {s s1 : Shared} {H : Hp} {E : XK} {us : List Value} {vs : List V}
    (S : FnScope N ps scope) (hd : A.handled = none) (e0 : Env0 P w K mg base A outer s H) (hl : vs.length = ps.length) (r : Vals vs us)
    (x : InCallC s s.heap.objs.size (bindL (envOfC qual scope s.heap.objs.size f cd).kindOf (ps.zip us) fun _ => none) (cellsFrom (s.heap.objs.size + 1) scope.names []) (bindC (envOfC qual scope s.heap.objs.size f cd).kindOf (ps.zip us) fun _ => none) s1) :
    Inv (cxOf CX P w K mg base N qual scope f cd A outer s H E) [] (start N vs) H s1 := by
  have hpl : ps.length ≤ N.length := by have := congrArg List.length S.pre; rw [List.length_take] at this; omega
  obtain ⟨h1, tk, rfl, hk⟩ := x.done
  have noA : ∀ b : Addr, b ∉ (cxOf CX P w K mg base N qual scope f cd A outer s H E).ex := fun b z => absurd (show b ∈ ([] : List Addr) from z) (by simp)
  refine ⟨⟨e0.mod, S.kind, rfl, rfl, Nat.le_refl _, fun y z c h1 h2 => ?_, fun y hy => ?_, fun y c _ h => ?_, fun _ => hd, Around.frames_deeper e0.frames, .inr ⟨rfl, rfl⟩, fun b z => absurd z (noA b), e0.bs, e0.bsz, fun b _ _ => noA b, fun b z => absurd z (noA b), e0.funs, e0.frf⟩,
    rfl, e0.bare, Un.kept hk, ⟨_, x.toInCall.ns, fun i y v h1 h2 h3 => ?_⟩, fun y c h => ⟨_, x.cell y c h⟩, e0.hok.fresh (Nat.le_refl _), fun y c h => ?_, fun p hp => absurd (show p ∈ ([] : List (Addr × Obj)) from hp) (by simp), e0.hok.kept hk, ?_⟩
  · exact name_of_addr x.apart (PySem.mem_of_lookup h1) (PySem.mem_of_lookup h2)
  · have hy : scope.names.lookup y = some .cell ∨ scope.names.lookup y = some .free := hy
    rcases hy with hy | hy
    · exact cell_has hy
    · exact absurd rfl (S.nofree _ (PySem.mem_of_lookup hy))
  · exact Nat.le_of_lt (x.above y c (PySem.mem_of_lookup h))
  · have hi : i < vs.length := by
      unfold start at h2
      by_cases hi : i < vs.length
      · exact hi
      · rw [List.getElem?_append_right (by simpa using hi)] at h2
        rw [List.getElem?_replicate] at h2
        split at h2 <;> cases h2
    have ha : vs[i]? = some v := by
      unfold start at h2
      rw [List.getElem?_append_left (by simpa using hi), List.getElem?_map] at h2
      cases e : vs[i]? with
      | none => rw [e] at h2; cases h2
      | some a => rw [e] at h2; cases h2; rfl
    obtain ⟨u, hu, rv⟩ := r.get ha
    have hp : ps[i]? = some y := by
      rw [← S.pre, List.getElem?_take_of_lt (by omega)]; exact h1
    have ndP : ps.Nodup := by rw [← S.pre]; exact S.nd.sublist (List.take_sublist _ _)
    refine ⟨u, rv, ?_⟩
    rcases S.par y (List.mem_of_getElem? hp) with k | k
    · exact .inl ⟨k, bindL_get ndP hp hu k⟩
    · obtain ⟨c, e⟩ := cell_has (n := s.heap.objs.size + 1) k
      refine .inr ⟨.inl k, c, e, ?_⟩
      have q := x.cell y c e
      rw [bindC_get ndP hp hu (by show scope.names.lookup y ≠ _; rw [k]; decide)] at q
      exact q
  · exact e0.hok.fresh (Nat.le_of_lt (x.above y c (PySem.mem_of_lookup h)))
  · unfold start
    show _ = N.length
    rw [List.length_append, List.length_map, List.length_replicate]
    omega
theorem fn_of {CX : CXT} {P : Program} {w : World} {K : PySem.W.Frag} {mg : Str → Option Value} {base : Heap} {k : Nat} {f : Addr} {name qual : Str} {params : Arguments} {body : List Stmt} {scope : Scope} {dV kV doc pm cdv ct oc : Value} {an od : Option Addr}
    {osl : Array (Option Value)} {N ps : List Str} {sp : Sp} (lk : K.lookup f = some ⟨oc, od, .func (PySem.W.fnOf name qual params body scope dV kV doc pm an cdv ct), osl⟩) (hcd : PySem.W.codeIn K cdv qual = true) (S : FnScope N ps scope)
    (len : ∀ vs H Q E, sp vs H Q E → vs.length = ps.length)
    (hbody : ∀ (A : Around) (outer : List Env) (s : Shared) (H : Hp) (vs : List V) (Q : VK) (E : XK), Room k (A.deeper (envOfC qual scope s.heap.objs.size f cdv)) → sp vs H Q E →
      ∃ t, PSs (cxOf CX P w K mg base N qual scope f cdv A outer s H E) body t ∧ t { nx := fun _ H' => Q .non H', rt := Q } (start N vs) H) :
    FnOk P w K mg base CX (k + 1) f (PySem.W.fnOf name qual params body scope dV kV doc pm an cdv ct) ps sp := by
  refine ⟨len, fun A outer s H args us vs Q E hr e0 hb r hsp => ?_⟩
  have hl := len _ _ _ _ hsp
  have KX : K.In s.heap := e0.mod.kin.keeps fun b o e => (e0.bs b o e).1
  have lim : s.heap.NoLimit := e0.mod.nolimit.keeps fun b o e => (e0.bs b o e).1
  have hkind : ∀ y ∈ ps.zip us, scope.names.lookup y.1 = some .local ∨ (scope.names.lookup y.1 = some .cell ∧ ((cellsFrom (s.heap.objs.size + 1) scope.names []).lookup y.1).isSome = true) := fun ⟨n, v⟩ hy => by
    rcases S.par n (List.of_mem_zip hy).1 with q | q
    · exact .inl q
    · exact .inr ⟨q, PySem.W.cellsFrom_some _ _ _ (.inl q)⟩
  refine codeAny_call_function hr.depth (KX _ _ lk) rfl S.co S.gen rfl (PySem.W.codeRec_of KX hcd) (hb _ _ _ _ ?_)
  refine wpAny_newFunctionEnv_cells S.kind hkind fun env he s1 x => ?_
  subst he
  refine ⟨lim.keeps x.toInCall.keep, codeAny_func ?_⟩
  obtain ⟨t, ht, hq⟩ := hbody A outer s H vs Q E (hr.deeper _) hsp
  have I : Inv (cxOf CX P w K mg base N qual scope f cdv A outer s H E) [] (start N vs) H s1 := inv_start S hr.hd e0 hl r x
  refine wpAny_mono (ht [] s1 (start N vs) H _ I hq) (fun fl s' hs => ?_) fun e s' hs => hs
  have fin : ∀ {σ' : St} {H' : Hp} {v : V} {u : Value}, Inv (cxOf CX P w K mg base N qual scope f cdv A outer s H E) [] σ' H' s' → RelV v u → Q v H' → CE outer P w H s Q u s' :=
    fun {σ' H' v u} J rv q => ⟨v, H', J.os, J.bare, J.base, J.hok, rv, q⟩
  cases fl with
  | ret u =>
    obtain ⟨v, σ', H', J, rv, q⟩ := hs
    exact fin J rv q
  | next =>
    obtain ⟨σ', H', J, q⟩ := hs
    exact fin (v := V.non) (u := Value.none) J rfl q
  | brk =>
    obtain ⟨_, _, _, q⟩ := hs
    exact False.elim q
  | cont =>
    obtain ⟨_, _, _, q⟩ := hs
    exact False.elim q
end L2
namespace L2
open PySem PySem.Spec PyProof.Rows
section
variable {X : Cx} {x : Str} {p pos : Pos} {e : Expr} {es : List Expr} {t : TA} {id T : String} {r : List V → Hp → VK → Prop}
def tCB (r : List V → Hp → VK → Prop) (t : TA) : TE := fun σ H Q => t σ H fun vs H1 => r vs H1 Q
theorem pe_callB (hc : CallR X (.builtin id) r) (hg : Gl X x) (hm : X.mg x = none) (hv : bootBuiltins x = some (.builtin id)) (ha : PA X (e :: es) t) (hn : x ≠ "__name__" := by decide) (hdb : (x == ("__debug__" : Str)) = false := by decide)
    (he : starEach (e :: es) X.env = (false, eval e X.env) :: starEach es X.env := by rfl) (hpl : (backTo pos (starEach es X.env)).any (·.1) = false := by rfl) : PE X (.Call (.Name x p) (e :: es) [] pos) (tCB r t) := by
  intro pins s σ H Q I h
  refine wpAny_Call_Name_kw (ld_blt I hg hm hv ?_ hn hdb)
  exact PyProof.Rows.callWith_builtin1 (thn (ha pos pins s σ H _ I h) fun us s1 ⟨vs, H1, I1, r1, q1⟩ => hc pins s1 σ H1 vs us Q I1 r1 q1) he hpl
theorem pe_callTy (hc : CallR X (.type T) r) (hg : Gl X x) (hm : X.mg x = none) (hv : bootBuiltins x = some (.type T)) (ha : PA X (e :: es) t) (hn : x ≠ "__name__" := by decide) (hdb : (x == ("__debug__" : Str)) = false := by decide)
    (he : starEach (e :: es) X.env = (false, eval e X.env) :: starEach es X.env := by rfl) (hpl : (backTo pos (starEach es X.env)).any (·.1) = false := by rfl) : PE X (.Call (.Name x p) (e :: es) [] pos) (tCB r t) := by
  intro pins s σ H Q I h
  refine wpAny_Call_Name_kw (ld_blt I hg hm hv ?_ hn hdb)
  exact PyProof.Rows.callWith_type1 (thn (ha pos pins s σ H _ I h) fun us s1 ⟨vs, H1, I1, r1, q1⟩ => hc pins s1 σ H1 vs us Q I1 r1 q1) he hpl
end
end L2
namespace HT
open PySem PyProof.Rows
section
open PySem.SeqAt
open PySem.AutoSeq1 (wpAny_loadPart')
open PySem.MeetsSeq PySem.MeetsSeq2 PySem.MeetsSeq3
end
section
variable {prog : Program} {w : World} {A : Around} {E : Value → Shared → Prop} {s : Shared}
theorem cat_tup {t b : Addr} {vs ws : List Value} {Q : Value → Shared → Prop} (ht : IsTup s.heap t vs.toArray) (hb : IsTup s.heap b ws.toArray) (hv : vs ≠ [])
    (h1 : ws = [] → Q (.ref t) s) (h2 : ws ≠ [] → Q (.ref s.heap.objs.size) { s with heap := s.heap.push { cls := .type "tuple", data := .seq (vs ++ ws).toArray } })
    (hsz : vs.length + ws.length ≤ sizeLine) : wpAny (model prog w) A (binaryOp .Add (.ref t) (.ref b)) Q E s := by
  obtain ⟨⟨cls, dd, data, sl⟩, ho, hc, n, hd⟩ := id ht
  obtain ⟨⟨cls2, dd2, data2, sl2⟩, ho2, hc2, n2, hd2⟩ := id hb
  simp only at hc hd hc2 hd2
  subst hc hd hc2 hd2
  have e : vs.toArray ++ ws.toArray = (vs ++ ws).toArray := by simp
  by_cases hw : ws = []
  · exact concat_meets ⟨_, ho, rfl⟩ ⟨_, ho2, rfl⟩ noFill_tuple_add seq_tuple_add PySem.F.slot_tuple_add PySem.F.entry_tuple_add (PySem.F.args_tuple_add_2 _ _)
      (tuple_addW1 t b vs.toArray ws.toArray n n2 dd dd2 sl sl2 (by simpa using hv) (by simp [hw])) ⟨ho, ho2, h1 hw⟩
  · refine concat_meets ⟨_, ho, rfl⟩ ⟨_, ho2, rfl⟩ noFill_tuple_add seq_tuple_add PySem.F.slot_tuple_add PySem.F.entry_tuple_add (PySem.F.args_tuple_add_2 _ _)
      (tuple_addW2 t b vs.toArray ws.toArray n n2 dd dd2 sl sl2 (by simpa using hv) (by simpa using hw) (by rw [List.size_toArray, List.size_toArray]; exact hsz)) ⟨ho, ho2, ?_⟩
    rw [e]
    exact h2 hw
def sIx (n d : Nat) : Option Int → Nat
  | none => d
  | some v => if v < 0 then (v + (n : Int)).toNat else min v.toNat n
theorem sIx_none (n d : Nat) : sIx n d none = d := rfl
theorem sIx_nat (n d k : Nat) : sIx n d (some (k : Int)) = min k n := by
  show (if (k : Int) < 0 then ((k : Int) + (n : Int)).toNat else min (k : Int).toNat n) = min k n
  rw [if_neg (by omega), Int.toNat_natCast]
theorem sIx_le (n d : Nat) (hd : d ≤ n) (o : Option Int) : sIx n d o ≤ n := by
  cases o with
  | none => exact hd
  | some v =>
    show (if v < 0 then (v + (n : Int)).toNat else min v.toNat n) ≤ n
    by_cases hv : v < 0
    · rw [if_pos hv]; omega
    · rw [if_neg hv]; exact Nat.min_le_right _ _
theorem clip_eq (v : Int) (n d : Nat) : (if v < 0 then max (v + (n : Int)) 0 else min v (n : Int)) = ((sIx n d (some v) : Nat) : Int) := by
  show (if v < 0 then max (v + (n : Int)) 0 else min v (n : Int)) = (((if v < 0 then (v + (n : Int)).toNat else min v.toNat n) : Nat) : Int)
  by_cases hv : v < 0
  · simp only [if_pos hv]; omega
  · simp only [if_neg hv]; omega
theorem adjust_gen (lo hi : Option Int) (n : Nat) : Builtin.Slice.sliceAdjust lo hi 1 (n : Int) = (((sIx n 0 lo : Nat) : Int), ((sIx n n hi : Nat) : Int)) := by
  have h1 : ¬ ((1 : Int) < 0) := by omega
  unfold Builtin.Slice.sliceAdjust
  simp only [h1, if_false]
  refine Prod.ext ?_ ?_
  · cases lo with
    | none => rfl
    | some v => exact clip_eq v n 0
  · cases hi with
    | none => rfl
    | some v => exact clip_eq v n n
theorem places_gen (i j : Nat) : Builtin.Slice.slicePlaces (i : Int) (j : Int) 1 = j - i := by
  unfold Builtin.Slice.slicePlaces
  have h1 : (1 : Int) > 0 := by omega
  simp only [h1, if_true, Int.ediv_one]
  split <;> omega
theorem slicePart_ {v : Value} {o : Option Int} {Q : Option Int → Shared → Prop} (p : IsPart v o) (h : Q o s) : wpAny (model prog w) A (Builtin.Slice.slicePartIndex v) Q E s := by
  cases p with
  | none => exact slicePart_none h
  | int i t => exact slicePart_int h
theorem sliceApplied_gen {sl : Addr} {vl vu : Value} {lo hi : Option Int} {n : Nat} {Q : Int × Int × Nat → Shared → Prop} (hs : s.heap.IsSliceOf sl vl vu .none) (pl : IsPart vl lo) (pu : IsPart vu hi)
    (h : Q (((sIx n 0 lo : Nat) : Int), 1, sIx n n hi - sIx n 0 lo) s) : wpAny (model prog w) A (Builtin.Slice.sliceApplied (.ref sl) (pure (n : Int))) Q E s := by
  obtain ⟨os, hos, hcs, hds⟩ := id hs
  unfold Builtin.Slice.sliceApplied Builtin.Slice.sliceFields
  refine wpAny_bind (wpAny_bind (wpAny_field hos hds (x := vl) rfl (wpAny_bind (wpAny_field hos hds (x := vu) rfl (wpAny_bind (wpAny_field hos hds (x := .none) rfl (wpAny_pure ?_)))))))
  refine wpAny_bind (slicePart_none ?_)
  show wpAny _ _ (if ((1 : Int) == 0) = true then _ else _) _ _ s
  rw [if_neg (by decide)]
  refine wpAny_bind (slicePart_ pl (wpAny_bind (slicePart_ pu (wpAny_bind (wpAny_pure ?_)))))
  show wpAny _ _ (match Builtin.Slice.sliceAdjust lo hi 1 (n : Int) with | (lo, hi) => pure (lo, (1 : Int), Builtin.Slice.slicePlaces lo hi 1)) _ _ s
  rw [adjust_gen lo hi n]
  show wpAny _ _ (pure (((sIx n 0 lo : Nat) : Int), (1 : Int), Builtin.Slice.slicePlaces ((sIx n 0 lo : Nat) : Int) ((sIx n n hi : Nat) : Int) 1)) _ _ s
  rw [places_gen]
  exact wpAny_pure h
theorem pick_gen (xs : Array Value) (i k : Nat) : ((List.range k).filterMap fun (m : Nat) => xs[((i : Int) + (m : Int) * 1).toNat]?).toArray = ((xs.toList.drop i).take k).toArray := by
  have e : (fun (m : Nat) => xs[((i : Int) + (m : Int) * 1).toNat]?) = fun m => xs[i + m]? := by
    funext m
    have : ((i : Int) + (m : Int) * 1).toNat = i + m := by omega
    rw [this]
  rw [e]
  have := pick_run xs i k
  rw [List.filterMap_map] at this
  have e2 : ((fun x => xs[x]?) ∘ fun x => i + x) = fun m => xs[i + m]? := rfl
  rw [e2] at this
  rw [this]
theorem getItem_tuple_cut {t sl : Addr} {items : Array Value} {vl vu : Value} {lo hi : Option Int} {Q : Value → Shared → Prop} (ht : IsTup s.heap t items) (hs : s.heap.IsSliceOf sl vl vu .none) (pl : IsPart vl lo) (pu : IsPart vu hi)
    (hw : ¬ (sIx items.size 0 lo = 0 ∧ sIx items.size items.size hi = items.size))
    (h : Q (.ref s.heap.objs.size) { s with heap := s.heap.push { cls := .type "tuple", data := .seq ((items.toList.drop (sIx items.size 0 lo)).take (sIx items.size items.size hi - sIx items.size 0 lo)).toArray } })
    (hsz : items.size ≤ sizeLine) : wpAny (model prog w) A (getItem (.ref t) (.ref sl)) Q E s := by
  have htake : sizeOk (.seq ((items.toList.drop (sIx items.size 0 lo)).take (sIx items.size items.size hi - sIx items.size 0 lo)).toArray) := by
    show ((items.toList.drop (sIx items.size 0 lo)).take (sIx items.size items.size hi - sIx items.size 0 lo)).toArray.size ≤ sizeLine
    rw [List.size_toArray, List.length_take, List.length_drop, Array.length_toList]
    omega
  have hj : sIx items.size items.size hi ≤ items.size := sIx_le _ _ (Nat.le_refl _) hi
  obtain ⟨os, hos, hcs, hds⟩ := id hs
  have hTs : s.TypeIs (.ref sl) "slice" := ⟨os, hos, hcs⟩
  unfold getItem
  try with_reducible refine wpAny_holding ?_
  first | refine wpAny_bind (wpAny_pure ?_) | skip
  refine wpAny_bind (wpAny_sequenceKey ht.typeIs (by decide) ?_)
  refine wpAny_bind (wpAny_callSpecial?_slot (name := Str.ofString "__getitem__") ht.typeIs PyProof.Rows.slot_tuple_getitem
    (wpAny_call_entry PyProof.Rows.slot_tuple_getitem ht.typeIs entry_tuple_getitem ?_ (args_tuple_getitem _ _)))
  show wpAny _ _ (Builtin.Tuple.tupleItemsOf (.ref t) >>= _) _ _ s
  refine wpAny_bind (tupleItemsOf_ ht ?_)
  refine wpAny_bind (wpAny_typeOf hTs ?_)
  rw [if_pos (by decide)]
  refine wpAny_bind (sliceApplied_gen hs pl pu ?_)
  have hno : ¬ ((((sIx items.size 0 lo : Nat) : Int) == 0 && (1 : Int) == 1 && (sIx items.size items.size hi - sIx items.size 0 lo) == items.size) = true) := by
    intro q
    rw [Bool.and_eq_true, Bool.and_eq_true] at q
    have q1 : ((sIx items.size 0 lo : Nat) : Int) = 0 := eq_of_beq q.1.1
    have q2 : sIx items.size items.size hi - sIx items.size 0 lo = items.size := eq_of_beq q.2
    exact hw ⟨by omega, by omega⟩
  show wpAny _ _ (if (((sIx items.size 0 lo : Nat) : Int) == 0 && (1 : Int) == 1 && (sIx items.size items.size hi - sIx items.size 0 lo) == items.size) = true then _ else _) _ _ s
  rw [if_neg hno, pick_gen]
  first
    | exact wpAny_bind (m := Builtin.Tuple.tupleExact _) (wpAny_newObj_type (wpAny_pure ⟨_, rfl, wpAny_pure h⟩) htake)
    | exact wpAny_bind (m := Builtin.Tuple.tupleExact _) (wpAny_newObj_type (wpAny_bind (wpAny_pure (wpAny_pure ⟨_, rfl, wpAny_pure h⟩))) htake)
    | exact wpAny_bind (wpAny_bind (m := Builtin.Tuple.tupleExact _) (wpAny_newObj_type (wpAny_pure (wpAny_pure ⟨_, rfl, wpAny_pure h⟩)) htake))
    | exact wpAny_bind (wpAny_bind (m := Builtin.Tuple.tupleExact _) (wpAny_newObj_type (wpAny_pure ⟨_, rfl, wpAny_pure h⟩) htake))
end
end HT
namespace L2
open PySem PySem.Spec PyProof.Rows
abbrev TO := St → Hp → (Option Int → Hp → Prop) → Prop
def PO (X : Cx) (e : Option Expr) (t : TO) : Prop :=
  ∀ (pins : List (Addr × Obj)) (s : Shared) (σ : St) (H : Hp) (Q : Option Int → Hp → Prop), Inv X pins σ H s → t σ H Q →
    wpAny (model X.prog X.w) X.A (evalPart e X.env) (fun u s' => ∃ o H', Inv X pins σ H' s' ∧ IsPart u o ∧ Q o H') X.xe s
def tNoPart : TO := fun _ H Q => Q none H
def tPart (t : TE) : TO := fun σ H Q => t σ H fun x H1 => ∃ i, x = .int i ∧ Q (some i) H1
section
variable {X : Cx} {e : Expr} {te : TE} {lo hi : Option Expr} {tl th : TO} {pos p2 : Pos}
theorem po_none : PO X none tNoPart := by
  intro pins s σ H Q I h
  rw [evalPart_none]
  exact wpAny_pure ⟨none, H, I, .none, h⟩
theorem po_some (h : PE X e te) : PO X (some e) (tPart te) := by
  intro pins s σ H Q I hw
  rw [evalPart_some]
  refine thn (h pins s σ H _ I hw) fun u s1 ⟨x, H1, I1, r1, q1⟩ => ?_
  obtain ⟨i, rfl, q⟩ := q1
  obtain ⟨t, rfl⟩ := r1
  exact ⟨some i, H1, I1, .int i t, q⟩
def SlR (X : Cx) (r : V → Option Int → Option Int → Hp → VK → Prop) : Prop :=
  ∀ (pins : List (Addr × Obj)) (s : Shared) (σ : St) (H : Hp) (x : V) (v vl vu : Value) (lo hi : Option Int) (sl : Addr) (Q : VK), Inv X pins σ H s → RelV x v → s.heap.IsSliceOf sl vl vu .none → IsPart vl lo → IsPart vu hi → r x lo hi H Q →
    ∃ T id, typeLookup (.type T) "__getitem__" = pure (some (.builtin id)) ∧ s.TypeIs v T ∧ wpAny (model X.prog X.w) X.A (getItem v (.ref sl)) (EP X pins σ Q) X.xe s
theorem SlR.or {r r' : V → Option Int → Option Int → Hp → VK → Prop} (h : SlR X r) (h' : SlR X r') : SlR X (fun x lo hi H Q => r x lo hi H Q ∨ r' x lo hi H Q) := by
  intro pins s σ H x v vl vu lo hi sl Q I rx hs pl pu q
  rcases q with q | q
  · exact h pins s σ H x v vl vu lo hi sl Q I rx hs pl pu q
  · exact h' pins s σ H x v vl vu lo hi sl Q I rx hs pl pu q
def tSl (r : V → Option Int → Option Int → Hp → VK → Prop) (te : TE) (tl th : TO) : TE := fun σ H Q => te σ H fun x H1 => tl σ H1 fun l H2 => th σ H2 fun u H3 => r x l u H3 Q
theorem pe_slice {r : V → Option Int → Option Int → Hp → VK → Prop} (hr : SlR X r) (he : PE X e te) (hl : PO X lo tl) (hu : PO X hi th) : PE X (.Subscript e (.Slice lo hi none p2) pos) (tSl r te tl th) := by
  intro pins s σ H Q I h
  refine Subscript_ (thn (he pins s σ H _ I h) fun v s1 ⟨x, H1, I1, r1, q1⟩ => ?_)
  refine wpAny_Slice (thn (hl pins s1 σ H1 _ I1 q1) fun vl s2 ⟨l, H2, I2, pl, q2⟩ => thn (hu pins s2 σ H2 _ I2 q2) fun vu s3 ⟨u, H3, I3, pu, q3⟩ => ?_)
  rw [evalPart_none]
  refine wpAny_pure ?_
  have I4 : Inv X pins σ H3 { s3 with heap := s3.heap.push { cls := .type "slice", data := .fields #[vl, vu, .none] } } := I3.kept (t' := s3.toks) fun b ob q => Heap.get?_push_of_some _ q
  obtain ⟨T, id, hT, ht, hg⟩ := hr pins { s3 with heap := s3.heap.push { cls := .type "slice", data := .fields #[vl, vu, .none] } } σ H3 x v vl vu l u s3.heap.objs.size Q I4 r1 (Heap.IsSliceOf.new ..) pl pu q3
  show wpAny (model X.prog X.w) X.A (subscriptTail e (.Slice lo hi none p2) v (.ref s3.heap.objs.size)) (EP X pins σ Q) X.xe { s3 with heap := s3.heap.push { cls := .type "slice", data := .fields #[vl, vu, .none] } }
  exact tail_any (ops := [.ref s3.heap.objs.size, v]) ht hT hg (by with_unfolding_all rfl)
def cutV (xs : List V) (lo hi : Option Int) : List V := (xs.drop (HT.sIx xs.length 0 lo)).take (HT.sIx xs.length xs.length hi - HT.sIx xs.length 0 lo)
theorem cutV_length (xs : List V) (lo hi : Option Int) : (cutV xs lo hi).length ≤ xs.length := by
  unfold cutV
  rw [List.length_take, List.length_drop]
  omega
def rSlT (K : PySem.W.Frag) : V → Option Int → Option Int → Hp → VK → Prop := fun x lo hi H Q => ∃ a xs, x = .ref a ∧ SqT K H a xs ∧
  ¬ (HT.sIx xs.length 0 lo = 0 ∧ HT.sIx xs.length xs.length hi = xs.length) ∧ ∀ p, H p = none → Q (.ref p) (upd H p (.tup (cutV xs lo hi)))
theorem sl_tup : SlR X (rSlT X.K) := by
  intro pins s σ H x v vl vu lo hi sl Q I rx hs pl pu h
  obtain ⟨a, xs, rfl, hx, hw, q⟩ := h
  cases rx
  obtain ⟨its, r, ht, hz⟩ := I.tuple hx
  have hlen : its.toArray.size = xs.length := by rw [List.size_toArray]; exact r.length.symm
  refine ⟨"tuple", _, PyProof.Rows.slot_tuple_getitem.lookup, ht.typeIs, ?_⟩
  refine HT.getItem_tuple_cut ht hs pl pu (by rw [hlen]; exact hw) ?_ (by rw [hlen]; exact hz)
  rw [hlen]
  refine ⟨.ref s.heap.objs.size, _, I.laid (t' := s.toks) (o := .tup (cutV xs lo hi)) (fun b ob q => Heap.get?_push_of_some _ q) (Nat.le_refl _) ?_, rfl, q _ (I.hok.fresh (Nat.le_refl _))⟩
  exact ⟨Nat.le_trans (cutV_length xs lo hi) hz, _, (r.drop (HT.sIx xs.length 0 lo)).take (HT.sIx xs.length xs.length hi - HT.sIx xs.length 0 lo), IsTup.new _ _⟩
def rCatT (K : PySem.W.Frag) : R2 := fun x y H Q => ∃ a b xs ys, x = .ref a ∧ y = .ref b ∧ SqT K H a xs ∧ SqT K H b ys ∧ xs ≠ [] ∧ xs.length + ys.length ≤ sizeLine ∧
  (ys = [] → Q (.ref a) H) ∧ (ys ≠ [] → ∀ p, H p = none → Q (.ref p) (upd H p (.tup (xs ++ ys))))
theorem Vals.nil_iff {xs : List V} {us : List Value} (r : Vals xs us) : us = [] ↔ xs = [] := by
  cases r with
  | nil => simp
  | cons _ _ => simp
theorem op_catT : OpR X (binaryOp .Add) (rCatT X.K) := by
  intro pins s σ H x y v u Q I rx ry h
  obtain ⟨a, b, xs, ys, rfl, rfl, ha, hb, hx, hz, q1, q2⟩ := h
  cases rx
  cases ry
  obtain ⟨its, r1, p1, _⟩ := I.tuple ha
  obtain ⟨its2, r2, p2, _⟩ := I.tuple hb
  refine HT.cat_tup p1 p2 (fun z => hx (r1.nil_iff.mp z)) (fun z => ⟨.ref a, H, I, rfl, q1 (r2.nil_iff.mp z)⟩) (fun z => ?_) (by rw [← r1.length, ← r2.length]; exact hz)
  refine ⟨.ref s.heap.objs.size, _, I.laid (t' := s.toks) (o := .tup (xs ++ ys)) (fun b ob q => Heap.get?_push_of_some _ q) (Nat.le_refl _) ?_, rfl, q2 (fun w => z (r2.nil_iff.mpr w)) _ (I.hok.fresh (Nat.le_refl _))⟩
  exact ⟨by rw [List.length_append]; exact hz, _, r1.append r2, IsTup.new _ _⟩
end
end L2
namespace L2
open PySem PySem.Spec PyProof.Rows
def ixN (n : Nat) (i : Int) : Option Nat := if 0 ≤ i then (if i < n then some i.toNat else none) else if -(n : Int) ≤ i then some (i + n).toNat else none
def atI {α : Type} (xs : List α) (i : Int) : Option α := (ixN xs.length i).bind fun j => xs[j]?
theorem ixN_seq {n : Nat} {i : Int} {j : Nat} (h : ixN n i = some j) : seqIndex? i n = some j ∧ j < n ∧ -(n : Int) ≤ i ∧ i < n := by
  unfold ixN at h
  by_cases h0 : 0 ≤ i
  · rw [if_pos h0] at h
    by_cases h1 : i < n
    · rw [if_pos h1] at h
      have e : i.toNat = j := Option.some.inj h
      exact ⟨by rw [seqIndex_of h0 h1, e], by omega, by omega, h1⟩
    · rw [if_neg h1] at h; cases h
  · rw [if_neg h0] at h
    by_cases h1 : -(n : Int) ≤ i
    · rw [if_pos h1] at h
      have e : (i + n).toNat = j := Option.some.inj h
      exact ⟨by rw [seqIndex_neg (by omega) h1, e], by omega, h1, by omega⟩
    · rw [if_neg h1] at h; cases h
theorem atI_get {α : Type} {xs : List α} {i : Int} {v : α} (h : atI xs i = some v) : ∃ j, seqIndex? i xs.length = some j ∧ xs[j]? = some v ∧ j < xs.length ∧ -(xs.length : Int) ≤ i ∧ i < xs.length := by
  unfold atI at h
  cases e : ixN xs.length i with
  | none => rw [e] at h; cases h
  | some j =>
    rw [e] at h
    obtain ⟨h1, h2, h3, h4⟩ := ixN_seq e
    exact ⟨j, h1, h, h2, h3, h4⟩
theorem atI_nat {α : Type} {xs : List α} {j : Nat} {v : α} (h : xs[j]? = some v) : atI xs (j : Int) = some v := by
  have hj : j < xs.length := (List.getElem?_eq_some_iff.mp h).1
  have e : ixN xs.length (j : Int) = some j := by
    unfold ixN
    rw [if_pos (by omega), if_pos (by omega)]; simp
  unfold atI; rw [e]; exact h
def PlainIx (b : Expr) : Prop := ∀ o i, subscripted b false o i = operate [o, i] (getItem o i)
def IxR (X : Cx) (r : R2) : Prop :=
  ∀ (value slice : Expr) (pins : List (Addr × Obj)) (s : Shared) (σ : St) (H : Hp) (x y : V) (v u : Value) (Q : VK), Inv X pins σ H s → RelV x v → RelV y u → r x y H Q →
    subscripted slice false v u = operate [v, u] (getItem v u) → wpAny (model X.prog X.w) X.A (subscriptTail value slice v u) (EP X pins σ Q) X.xe s
def MtR (X : Cx) (id : String) (r : V → List V → Hp → VK → Prop) : Prop :=
  ∀ (pins : List (Addr × Obj)) (s : Shared) (σ : St) (H : Hp) (x : V) (xs : List V) (v : Value) (us : List Value) (Q : VK), Inv X pins σ H s → RelV x v → Vals xs us → r x xs H Q →
    wpAny (model X.prog X.w) X.A (call (.builtin id) (v :: us)) (EP X pins σ Q) X.xe s
section
variable {X : Cx} {a b : Expr} {ta tb : TE} {pos : Pos}
theorem IxR.or {r r' : R2} (h : IxR X r) (h' : IxR X r') : IxR X (fun x y H Q => r x y H Q ∨ r' x y H Q) := by
  intro value slice pins s σ H x y v u Q I rx ry q hs
  rcases q with q | q
  · exact h value slice pins s σ H x y v u Q I rx ry q hs
  · exact h' value slice pins s σ H x y v u Q I rx ry q hs
theorem pe_ix {r : R2} (hr : IxR X r) (ha : PE X a ta) (hb : PE X b tb) (hs : PlainIx b) : PE X (.Subscript a b pos) (tOp r ta tb) := by
  intro pins s σ H Q I h
  exact Subscript_ (binT ha hb I h fun v u s2 x y H2 I2 rx ry q => hr a b pins s2 σ H2 x y v u Q I2 rx ry q (hs _ _))
def rIxL (K : PySem.W.Frag) : R2 := fun x y H Q => ∃ p xs i v, x = .ref p ∧ y = .int i ∧ SqL K H p xs ∧ atI xs i = some v ∧ Q v H
def rIxT (K : PySem.W.Frag) : R2 := fun x y H Q => ∃ p xs i v, x = .ref p ∧ y = .int i ∧ SqT K H p xs ∧ atI xs i = some v ∧ Q v H
def rIxS : R2 := fun x y H Q => ∃ z i c, x = .str z ∧ y = .int i ∧ z.length ≤ sizeLine ∧ atI z.cps.toList i = some c ∧ Q (.str ⟨#[c]⟩) H
theorem ix_list : IxR X (rIxL X.K) := by
  intro value slice pins s σ H x y v u Q I rx ry h hs
  obtain ⟨p, xs, i, z, rfl, rfl, hq, he, q⟩ := h
  cases rx
  obtain ⟨t, rfl⟩ := ry
  obtain ⟨its, r, pl, hz⟩ := I.list hq
  obtain ⟨j, h1, h2, h3, h4, h5⟩ := atI_get he
  obtain ⟨w, ew, rw'⟩ := r.get h2
  have hl := r.length
  have hn := line63
  have fin : EP X pins σ Q w s := ⟨z, H, I, rw', q⟩
  by_cases h0 : 0 ≤ i
  · have hj : i.toNat = j := by
      rw [seqIndex_of h0 h5] at h1
      exact Option.some.inj h1
    exact item_listR pl.isList h0 (by omega) (by rw [hj]; simpa using ew) fin hs
  · have hj : (i + (its.toArray.size : Int)).toNat = j := by
      rw [seqIndex_neg (by omega) h4] at h1
      rw [List.size_toArray, ← hl]
      exact Option.some.inj h1
    exact subscriptTail_builtinR (x := w) pl.isList.typeIs slot_list_getitem.lookup
      (wpAny_getItem_list_neg (Q := fun r s' => r = w ∧ EP X pins σ Q r s') pl.isList (by omega) (by rw [List.size_toArray] <;> omega) (by omega) (by rw [hj]; simpa using ew) ⟨rfl, fin⟩) hs
theorem ix_tup : IxR X (rIxT X.K) := by
  intro value slice pins s σ H x y v u Q I rx ry h hs
  obtain ⟨p, xs, i, z, rfl, rfl, hq, he, q⟩ := h
  cases rx
  obtain ⟨t, rfl⟩ := ry
  obtain ⟨its, r, pl, hz⟩ := I.tuple hq
  obtain ⟨j, h1, h2, h3, h4, h5⟩ := atI_get he
  obtain ⟨w, ew, rw'⟩ := r.get h2
  have hl := r.length
  have hn := line63
  have fin : EP X pins σ Q w s := ⟨z, H, I, rw', q⟩
  exact subscriptTail_builtinR (x := w) pl.typeIs slot_tuple_getitem.lookup
    (getItem_tuple (j := j) (Q := fun r s' => r = w ∧ EP X pins σ Q r s') pl (by omega) (by omega) (by rw [List.size_toArray, ← hl]; exact h1) (by simpa using ew) ⟨rfl, fin⟩) hs
theorem ix_str : IxR X rIxS := by
  intro value slice pins s σ H x y v u Q I rx ry h hs
  obtain ⟨z, i, c, rfl, rfl, hz, he, q⟩ := h
  obtain ⟨t, rfl⟩ := rx
  obtain ⟨t', rfl⟩ := ry
  obtain ⟨j, h1, h2, h3, h4, h5⟩ := atI_get he
  have hl : z.cps.toList.length = z.length := by simp [Str.length]
  rw [hl] at h1 h4 h5
  have hn := line63
  exact tail_any (typeIs_str s z t) slot_str_getitem.lookup (getItem_str (c := c) (by
    have e1 : decide (i < -(2 ^ 63 : Int)) = false := decide_eq_false (by omega)
    have e2 : decide (i ≥ 2 ^ 63) = false := decide_eq_false (by omega)
    rw [e1, e2, Bool.or_false]) (by rw [h1]; simpa using h2) ⟨.str ⟨#[c]⟩, H, I.tok _, ⟨_, rfl⟩, q⟩) hs
theorem mapSeq_set (its : List Value) (n j : Nat) (u : Value) : Obj.mapSeq (·.setIfInBounds j u) { cls := .type "list", data := .seq its.toArray n } = { cls := .type "list", data := .seq (its.set j u).toArray n } := by
  simp [Obj.mapSeq]
theorem Inv.lst {pins : List (Addr × Obj)} {σ : St} {H : Hp} {s : Shared} {p : Addr} {xs : List V} (I : Inv X pins σ H s) (h : H p = some (.lst xs)) :
    ∃ (its : List Value) (n : Nat), Vals xs its ∧ s.heap.get? p = some { cls := .type "list", data := .seq its.toArray n } ∧ xs.length ≤ sizeLine := by
  obtain ⟨z, its, n, r, e⟩ := I.hok p _ h
  exact ⟨its, n, r, e, z⟩
theorem Inv.lstUpd {pins : List (Addr × Obj)} {σ : St} {H : Hp} {s : Shared} {p : Addr} {xs ys : List V} {its its' : List Value} {n n' : Nat} {f : Obj → Obj} (I : Inv X pins σ H s) (h : H p = some (.lst xs))
    (ho : s.heap.get? p = some { cls := .type "list", data := .seq its.toArray n }) (hf : f { cls := .type "list", data := .seq its.toArray n } = { cls := .type "list", data := .seq its'.toArray n' }) (r : Vals ys its') (hz : ys.length ≤ sizeLine) (t : Nat) :
    Inv X pins σ (upd H p (.lst ys)) { s with heap := s.heap.update p f, toks := t } := by
  have e : (s.heap.update p f).get? p = some { cls := .type "list", data := .seq its'.toArray n' } := by
    rw [Heap.get?_update_self f ho (by rw [hf] <;> rfl), hf]
  refine I.write (x := p) (e := p) (by rw [h]; trivial) (.inl rfl) (fun b u hb q => (Heap.get?_update_other _ _ (Ne.symm hb)).trans q) ⟨_, e⟩ ?_
  exact ⟨hz, its', n', r, e⟩
def rSetL : V → V → V → Hp → (Hp → Prop) → Prop := fun o i v H Q => ∃ p xs k j, o = .ref p ∧ i = .int k ∧ H p = some (.lst xs) ∧ ixN xs.length k = some j ∧ Q (upd H p (.lst (xs.set j v)))
theorem set_list : PSet X rSetL := by
  intro pins s σ H o i v ov iv u Q I ro ri rv h
  obtain ⟨p, xs, k, j, rfl, rfl, hp, hj, q⟩ := h
  cases ro
  obtain ⟨t, rfl⟩ := ri
  obtain ⟨its, n, r, ho, hz⟩ := I.lst hp
  obtain ⟨h1, h2, h3, h4⟩ := ixN_seq hj
  have hl := r.length
  have hn := line63
  have I' : Inv X pins σ (upd H p (.lst (xs.set j v))) { s with heap := s.heap.update p (Obj.mapSeq (·.setIfInBounds j u)) } :=
    I.lstUpd hp ho (mapSeq_set its n j u) (r.set rv j) (by rw [List.length_set]; exact hz) s.toks
  by_cases h0 : 0 ≤ k
  · have hk : k.toNat = j := by
      rw [seqIndex_of h0 h4] at h1
      exact Option.some.inj h1
    exact PySem.W.ki_setAt ho h0 (by omega) (by rw [List.size_toArray, ← hl]; exact h4) (by rw [hk]; exact ⟨_, I', q⟩)
  · have hk : (k + (its.toArray.size : Int)).toNat = j := by
      rw [seqIndex_neg (by omega) h3] at h1
      rw [List.size_toArray, ← hl]
      exact Option.some.inj h1
    exact PySem.W.ki_setBack ho (by omega) (by rw [List.size_toArray, ← hl]; exact h3) (by omega) (by rw [hk]; exact ⟨_, I', q⟩)
theorem slice_bounds (lo hi : Option Int) (n : Nat) : (sliceBounds lo hi none n).1 = ((HT.sIx n 0 lo : Nat) : Int) ∧ (sliceBounds lo hi none n).2.1 = ((HT.sIx n n hi : Nat) : Int) ∧ (sliceBounds lo hi none n).2.2 = 1 := by
  refine ⟨?_, ?_, rfl⟩
  · cases lo with
    | none => simp [sliceBounds, HT.sIx]
    | some i =>
      simp only [sliceBounds, HT.sIx, Option.getD_none, show (1 : Int) > 0 by decide, if_true]
      by_cases h : i < 0
      · simp only [h, if_true] <;> omega
      · simp only [h, if_false] <;> omega
  · cases hi with
    | none => simp [sliceBounds, HT.sIx]
    | some i =>
      simp only [sliceBounds, HT.sIx, Option.getD_none, show (1 : Int) > 0 by decide, if_true]
      by_cases h : i < 0
      · simp only [h, if_true] <;> omega
      · simp only [h, if_false] <;> omega
theorem slicePick_cut (its : List Value) (lo hi : Option Int) : slicePick its.toArray lo hi none = ((its.drop (HT.sIx its.length 0 lo)).take (HT.sIx its.length its.length hi - HT.sIx its.length 0 lo)).toArray := by
  obtain ⟨h1, h2, h3⟩ := slice_bounds lo hi its.toArray.size
  unfold slicePick
  rw [h1, h2, h3]
  simp only [sliceRange_one, pick_run, List.size_toArray] <;> rfl
def rSlL (K : PySem.W.Frag) : V → Option Int → Option Int → Hp → VK → Prop := fun x lo hi H Q => ∃ a xs, x = .ref a ∧ SqL K H a xs ∧ ∀ p, H p = none → Q (.ref p) (upd H p (.lst (cutV xs lo hi)))
theorem sl_list : SlR X (rSlL X.K) := by
  intro pins s σ H x v vl vu lo hi sl Q I rx hs pl pu h
  obtain ⟨a, xs, rfl, hx, q⟩ := h
  cases rx
  obtain ⟨its, r, ht, hz⟩ := I.list hx
  have hlen := r.length
  refine ⟨"list", _, slot_list_getitem.lookup, ht.isList.typeIs, ?_⟩
  refine wpAny_getItem_list_slice ht.isList hs pl pu .none (by simp) ?_ (by rw [List.size_toArray] <;> omega)
  rw [slicePick_cut, ← hlen]
  refine ⟨.ref s.heap.objs.size, _, I.laid (t' := s.toks) (o := .lst (cutV xs lo hi)) (fun b ob q => Heap.get?_push_of_some _ q) (Nat.le_refl _) ?_, rfl, q _ (I.hok.fresh (Nat.le_refl _))⟩
  exact ⟨Nat.le_trans (cutV_length xs lo hi) hz, _, 0, (r.drop (HT.sIx xs.length 0 lo)).take (HT.sIx xs.length xs.length hi - HT.sIx xs.length 0 lo), Heap.get?_push_size _ rfl⟩
def flatV : V → Bool
  | .non => true
  | .bl _ => true
  | .int _ => true
  | .str _ => true
  | _ => false
def eqV : V → V → Bool
  | .non, .non => true
  | .bl a, .bl b => a == b
  | .bl a, .int b => (if a then 1 else 0) == b
  | .int a, .bl b => a == (if b then 1 else 0)
  | .int a, .int b => a == b
  | .str a, .str b => a == b
  | _, _ => false
theorem eqAt_V {A : Around} {s : Shared} {y x : V} {u v : Value} (ry : RelV y u) (rx : RelV x v) (fy : flatV y = true) (fx : flatV x = true) : SeqAt.EqAt A s u v (eqV y x) := by
  cases y with
  | non =>
    cases ry
    cases x with
    | non => cases rx; exact SeqAt.EqAt.same _
    | bl b => cases rx; exact SeqAt.EqAt.none_bool b
    | int b => obtain ⟨t, rfl⟩ := rx; exact SeqAt.EqAt.none_int b t
    | str b => obtain ⟨t, rfl⟩ := rx; exact SeqAt.EqAt.none_str b t
    | _ => exact absurd (show false = true from fx) Bool.false_ne_true
  | bl a =>
    cases ry
    cases x with
    | non => cases rx; exact SeqAt.EqAt.bool_none a
    | bl b => cases rx; exact SeqAt.EqAt.bool_bool a b
    | int b => obtain ⟨t, rfl⟩ := rx; exact SeqAt.EqAt.bool_int a b t
    | str b => obtain ⟨t, rfl⟩ := rx; exact SeqAt.EqAt.bool_str a b t
    | _ => exact absurd (show false = true from fx) Bool.false_ne_true
  | int a =>
    obtain ⟨t', rfl⟩ := ry
    cases x with
    | non => cases rx; exact SeqAt.EqAt.int_none a t'
    | bl b => cases rx; exact SeqAt.EqAt.int_bool a t' b
    | int b => obtain ⟨t, rfl⟩ := rx; exact SeqAt.EqAt.int_int a t' b t
    | str b => obtain ⟨t, rfl⟩ := rx; exact SeqAt.EqAt.int_str a t' b t
    | _ => exact absurd (show false = true from fx) Bool.false_ne_true
  | str a =>
    obtain ⟨t', rfl⟩ := ry
    cases x with
    | non => cases rx; exact SeqAt.EqAt.str_none a t'
    | bl b => cases rx; exact SeqAt.EqAt.str_bool a t' b
    | int b => obtain ⟨t, rfl⟩ := rx; exact SeqAt.EqAt.str_int a t' b t
    | str b => obtain ⟨t, rfl⟩ := rx; exact SeqAt.EqAt.str_str a t' b t
    | _ => exact absurd (show false = true from fx) Bool.false_ne_true
  | _ => exact absurd (show false = true from fy) Bool.false_ne_true
def eqU (x : V) (u : Value) : Bool := match u with
  | .none => eqV .non x
  | .bool b => eqV (.bl b) x
  | .int i _ => eqV (.int i) x
  | .str z _ => eqV (.str z) x
  | _ => false
theorem eqU_of {x y : V} {u : Value} (r : RelV y u) (f : flatV y = true) : eqU x u = eqV y x := by
  cases y with
  | non => cases r; rfl
  | bl b => cases r; rfl
  | int i => obtain ⟨t, rfl⟩ := r; rfl
  | str z => obtain ⟨t, rfl⟩ := r; rfl
  | _ => exact absurd (show false = true from f) Bool.false_ne_true
theorem any_eqU {x : V} : ∀ {xs : List V} {us : List Value}, Vals xs us → xs.all flatV = true → us.any (eqU x) = xs.any fun y => eqV y x
  | _, _, .nil, _ => rfl
  | y :: xs, u :: us, .cons r t, f => by
    rw [List.all_cons, Bool.and_eq_true] at f
    rw [List.any_cons, List.any_cons, eqU_of r f.1, any_eqU t f.2]
theorem mem_eqAt {A : Around} {s : Shared} {x : V} {v : Value} (rx : RelV x v) (fx : flatV x = true) : ∀ {xs : List V} {us : List Value}, Vals xs us → xs.all flatV = true → ∀ u ∈ us, SeqAt.EqAt A s u v (eqU x u)
  | _, _, .nil, _ => fun u hu => by cases hu
  | y :: xs, u :: us, .cons r t, f => fun u' hu => by
    rw [List.all_cons, Bool.and_eq_true] at f
    rcases List.mem_cons.mp hu with rfl | hu
    · rw [eqU_of r f.1]; exact eqAt_V r rx f.1 fx
    · exact mem_eqAt rx fx t f.2 u' hu
def inV (x : V) (xs : List V) : Bool := xs.any fun y => eqV y x
def rIn (K : PySem.W.Frag) (neg : Bool) : R2 := fun x y H Q => ∃ p xs, y = .ref p ∧ (SqL K H p xs ∨ SqT K H p xs) ∧ flatV x = true ∧ xs.all flatV = true ∧ Q (.bl (if neg then !inV x xs else inV x xs)) H
theorem op_in_seq : OpR X (compareOp .In) (rIn X.K false) := by
  intro pins s σ H x y v u Q I rx ry h
  obtain ⟨p, xs, rfl, hq, fx, fs, q⟩ := h
  cases ry
  rcases hq with hq | hq
  · obtain ⟨its, r, pl, hz⟩ := I.list hq
    refine SeqAt.in_listAt (eqU x) pl.isList (fun w hw => mem_eqAt rx fx r fs w (by simpa using hw)) ⟨.bl _, H, I, rfl, ?_⟩
    rw [show its.toArray.any (eqU x) = its.any (eqU x) by simp, any_eqU r fs]
    exact q
  · obtain ⟨its, r, pl, hz⟩ := I.tuple hq
    refine SeqAt.in_tupleAt (eqU x) pl (fun w hw => mem_eqAt rx fx r fs w (by simpa using hw)) ⟨.bl _, H, I, rfl, ?_⟩
    rw [show its.toArray.any (eqU x) = its.any (eqU x) by simp, any_eqU r fs]
    exact q
theorem call_list_of : CallR X (.type "list") (fun xs H Q => ∃ p ys, xs = [.ref p] ∧ (SqL X.K H p ys ∨ SqT X.K H p ys) ∧ ∀ l, H l = none → Q (.ref l) (upd H l (.lst ys))) := by
  intro pins s σ H xs us Q I r h
  obtain ⟨p, ys, rfl, hq, q⟩ := h
  obtain ⟨u, rfl, rx⟩ := vals1 r
  cases rx
  have fin : ∀ (its : List Value), Vals ys its → ys.length ≤ sizeLine → ∀ (h' : Heap) (c' : Nat), (∀ b o', s.heap.get? b = some o' → h'.get? b = some o') →
      h'.get? s.heap.objs.size = some { cls := .type "list", dict := none, data := .seq its.toArray c', slots := #[] } → EP X pins σ Q (.ref s.heap.objs.size) { s with heap := h' } := fun its r' hz h' c' kp e =>
    ⟨.ref s.heap.objs.size, _, I.laid (t' := s.toks) kp (Nat.le_refl _) (show ObjOk X.prog X.w _ h' _ (.lst ys) from ⟨hz, its, c', r', e⟩), rfl, q _ (I.hok.fresh (Nat.le_refl _))⟩
  rcases hq with hq | hq
  · obtain ⟨its, r', pl, hz⟩ := I.list hq
    have hlen := r'.length
    obtain ⟨o, ho, hc, n, hd⟩ := pl.isList
    exact call_list_seq p (.inl rfl) ho hc hd (fun h' c' kp e => fin its r' hz h' c' kp e) (by simp only [List.size_toArray] <;> omega)
  · obtain ⟨its, r', pl, hz⟩ := I.tuple hq
    have hlen := r'.length
    obtain ⟨o, ho, hc, n, hd⟩ := pl
    exact call_list_seq p (.inr rfl) ho hc hd (fun h' c' kp e => fin its r' hz h' c' kp e) (by simp only [List.size_toArray] <;> omega)
theorem call_tuple_of : CallR X (.type "tuple") (fun xs H Q => ∃ p ys, xs = [.ref p] ∧ ((SqL X.K H p ys ∧ ∀ l, H l = none → Q (.ref l) (upd H l (.tup ys))) ∨ (SqT X.K H p ys ∧ Q (.ref p) H))) := by
  intro pins s σ H xs us Q I r h
  obtain ⟨p, ys, rfl, h⟩ := h
  obtain ⟨u, rfl, rx⟩ := vals1 r
  cases rx
  rcases h with ⟨hq, q⟩ | ⟨hq, q⟩
  · obtain ⟨its, r', pl, hz⟩ := I.list hq
    have hlen := r'.length
    refine call_tuple_list pl.isList (fun h' kp => ?_) (by simp only [List.size_toArray] <;> omega)
    have I1 : Inv X pins σ H { s with heap := h' } := I.kept (t' := s.toks) kp
    have I2 : Inv X pins σ (upd H h'.objs.size (.tup ys)) { s with heap := h'.push { cls := .type "tuple", data := .seq its.toArray } } :=
      I1.laid (t' := s.toks) (fun b o e => Heap.get?_push_of_some _ e) (Nat.le_refl _) (show ObjOk X.prog X.w _ _ _ (.tup ys) from ⟨hz, its, r', IsTup.new _ _⟩)
    exact ⟨.ref h'.objs.size, _, I2, rfl, q _ (I1.hok.fresh (Nat.le_refl _))⟩
  · obtain ⟨its, r', pl, hz⟩ := I.tuple hq
    exact call_tuple_same pl ⟨.ref p, H, I, rfl, q⟩
def tyV (K : PySem.W.Frag) (T : String) (x : V) (H : Hp) : Prop := match x with
  | .str _ => T = "str"
  | .int _ => T = "int"
  | .ref p => (T = "list" ∧ ∃ xs, SqL K H p xs) ∨ (T = "tuple" ∧ ∃ o, K.lookup p = some o ∧ o.cls = .type "tuple" ∧ o.dict = none) ∨
      (T = "dict" ∧ ((∃ kvs, H p = some (.dK kvs)) ∨ ∃ kvs, H p = some (.dT kvs))) ∨ (T = "set" ∧ ∃ S n, H p = some (.set S n))
  | _ => False
theorem tyV_is {pins : List (Addr × Obj)} {σ : St} {H : Hp} {s : Shared} {T : String} {x : V} {v : Value} (I : Inv X pins σ H s) (r : RelV x v) (ty : tyV X.K T x H) :
    s.TypeIs v T ∧ ∀ a, v = .ref a → ∃ ob, s.heap.get? a = some ob ∧ ob.dict = none := by
  cases x with
  | str z =>
    obtain ⟨t, rfl⟩ := r
    cases (show T = "str" from ty)
    exact ⟨typeIs_str s z t, fun _ e => nomatch e⟩
  | int i =>
    obtain ⟨t, rfl⟩ := r
    cases (show T = "int" from ty)
    exact ⟨typeIs_int s i t, fun _ e => nomatch e⟩
  | ref p =>
    cases r
    rcases ty with ⟨rfl, xs, hq⟩ | ⟨rfl, o, hk, hc, hd⟩ | ⟨rfl, hk⟩ | ⟨rfl, S, n, hk⟩
    · obtain ⟨its, _, pl, _⟩ := I.list hq
      refine ⟨pl.isList.typeIs, fun a e => ?_⟩
      cases e
      obtain ⟨o, n, e, c, hd, _⟩ := pl
      exact ⟨o, e, hd⟩
    · refine ⟨⟨o, I.kIn p o hk, hc⟩, fun a e => ?_⟩
      cases e
      exact ⟨o, I.kIn _ o hk, hd⟩
    · have z : ∃ o, s.heap.get? p = some o ∧ o.ExactDict := by
        rcases hk with ⟨kvs, hk⟩ | ⟨kvs, hk⟩
        · obtain ⟨_, _, _, _, o, _, _, e, ex, _⟩ := I.hok p _ hk
          exact ⟨o, e, ex⟩
        · obtain ⟨_, _, _, _, o, _, _, e, ex, _⟩ := I.hok p _ hk
          exact ⟨o, e, ex⟩
      obtain ⟨o, e, ex⟩ := z
      refine ⟨⟨o, e, ex.1⟩, fun a e2 => ?_⟩
      cases e2
      exact ⟨o, e, ex.2.1⟩
    · obtain ⟨o, _, _, _, e, ex, _⟩ := I.hok p _ hk
      refine ⟨⟨o, e, ex.1⟩, fun a e2 => ?_⟩
      cases e2
      exact ⟨o, e, ex.2.1⟩
  | _ => exact False.elim ty
def tBM0 (K : PySem.W.Frag) (T : String) (r : V → List V → Hp → VK → Prop) (to : TE) : TE := fun σ H Q => to σ H fun x H1 => tyV K T x H1 ∧ r x [] H1 Q
def tBM (K : PySem.W.Frag) (T : String) (r : V → List V → Hp → VK → Prop) (to : TE) (t : TA) : TE := fun σ H Q => to σ H fun x H1 => tyV K T x H1 ∧ t σ H1 fun xs H2 => r x xs H2 Q
variable {o e : Expr} {es : List Expr} {to : TE} {t : TA} {name : Str} {apos cpos : Pos} {T id : String} {r : V → List V → Hp → VK → Prop}
theorem pe_bm0 (pa : PlainAttrs T) (slot : Slot T name id) (hty : typeOf (.builtin id) = pure (.type "method_descriptor")) (hm : MtR X id r) (ho : PE X o to)
    (hbase : attributeBase o name X.env (eval o X.env) = eval o X.env := by rfl) (hline : (apos.endLine == cpos.line) = true := by rfl) : PE X (.Call (.Attribute o name apos) [] [] cpos) (tBM0 X.K T r to) := by
  intro pins s σ H Q I h
  refine wpAny_Call_method0_late hbase hline (thn (ho pins s σ H _ I h) fun v s1 ⟨x, H1, I1, r1, ty, q1⟩ => ?_)
  obtain ⟨h1, h2⟩ := tyV_is I1 r1 ty
  exact ⟨T, id, pa, slot, hty, h1, h2, Calls.callWith_builtin rfl (PySem.evalArgs_none (hm pins s1 σ H1 x [] v [] Q I1 r1 .nil q1))⟩
theorem pe_bm (pa : PlainAttrs T) (slot : Slot T name id) (hty : typeOf (.builtin id) = pure (.type "method_descriptor")) (hm : MtR X id r) (ho : PE X o to) (ha : PA X (e :: es) t)
    (hbase : attributeBase o name X.env (eval o X.env) = eval o X.env := by rfl)
    (hfew : ((backTo cpos (starEach (e :: es) X.env)).all (fun x => !x.1) && (backToKw cpos (keywordEach [] X.env)).all (fun x => x.1.isSome)
      && decide ((e :: es).length + ([] : List Keyword).length + (if ([] : List Keyword).isEmpty then 0 else 1) < 30)) = true := by rfl)
    (hline : (apos.endLine == cpos.line) = true := by rfl) (hs : starEach (e :: es) X.env = (false, eval e X.env) :: starEach es X.env := by rfl) (hplain : (backTo cpos (starEach es X.env)).any (·.1) = false := by rfl) :
    PE X (.Call (.Attribute o name apos) (e :: es) [] cpos) (tBM X.K T r to t) := by
  intro pins s σ H Q I h
  refine wpAny_Call_method_late hbase hfew hline rfl (thn (ho pins s σ H _ I h) fun v s1 ⟨x, H1, I1, r1, ty, q1⟩ => ?_)
  obtain ⟨h1, h2⟩ := tyV_is I1 r1 ty
  refine ⟨T, id, pa, slot, hty, h1, h2, ?_⟩
  have hA := ha cpos pins s1 σ H1 _ I1 q1
  rw [hs] at hA ⊢
  refine Calls.callWith_builtin (by show (false || (backTo cpos (starEach es X.env)).any (·.1)) = false; rw [hplain] <;> rfl) (Calls.evalArgs_plain ?_)
  exact thn hA fun us s2 ⟨vs, H2, I2, r2, q2⟩ => hm pins s2 σ H2 x vs v us Q I2 r1 r2 q2
end
end L2
namespace L2
open PySem PySem.Spec PyProof.Rows
def MtM (X : Cx) (id : String) (r : V → List V → Hp → VK → Prop) : Prop :=
  ∀ (pins : List (Addr × Obj)) (s : Shared) (σ : St) (H : Hp) (x : V) (xs : List V) (v : Value) (us : List Value) (Q : VK), Inv X pins σ H s → RelV x v → Vals xs us → r x xs H Q →
    wpAny (model X.prog X.w) X.A (call (.builtin id) (v :: us)) (EP X pins σ Q) X.xe s
theorem Vals.one : ∀ {x : V} {us : List Value}, Vals [x] us → ∃ u, us = [u] ∧ RelV x u
  | _, _, .cons r .nil => ⟨_, rfl, r⟩
theorem Vals.zero : ∀ {us : List Value}, Vals [] us → us = []
  | _, .nil => rfl
theorem Vals.dropLast {xs : List V} {us : List Value} (h : Vals xs us) : Vals xs.dropLast us.dropLast := by
  induction h with
  | nil => exact .nil
  | cons r t ih =>
    cases t with
    | nil => exact .nil
    | cons q t' => exact .cons r ih
theorem Vals.rep {xs : List V} {us : List Value} (h : Vals xs us) : ∀ k : Nat, Vals (List.replicate k xs).flatten (List.replicate k us).flatten
  | 0 => .nil
  | k + 1 => by
    rw [List.replicate_succ, List.replicate_succ, List.flatten_cons, List.flatten_cons]
    exact Vals.append h (Vals.rep h k)
theorem erase_last {α : Type} (l : List α) : l.eraseIdx (l.length - 1) = l.dropLast := by
  induction l with
  | nil => rfl
  | cons a r ih =>
    cases r with
    | nil => rfl
    | cons b r =>
      have e : (a :: b :: r).length - 1 = ((b :: r).length - 1) + 1 := by
        have h1 : (a :: b :: r).length = r.length + 2 := rfl
        have h2 : (b :: r).length = r.length + 1 := rfl
        omega
      rw [e, List.eraseIdx_cons_succ, ih]
      all_goals rfl
theorem foldl_rep (its : List Value) : ∀ (k : Nat) (acc : List Value),
    List.foldl (fun x1 x2 => x1 ++ x2) acc.toArray (List.replicate k its.toArray) = (acc ++ (List.replicate k its).flatten).toArray
  | 0, acc => by simp
  | k + 1, acc => by
    have e : acc.toArray ++ its.toArray = (acc ++ its).toArray := by simp
    have e2 : (acc ++ its) ++ (List.replicate k its).flatten = acc ++ (List.replicate (k + 1) its).flatten := by
      rw [List.replicate_succ, List.flatten_cons, List.append_assoc]
    rw [← e2, ← foldl_rep its k (acc ++ its), ← e, List.replicate_succ, List.foldl_cons]
section
variable {X : Cx} {pins : List (Addr × Obj)} {σ : St} {H : Hp} {s : Shared} {l b : Addr} {xs ys zs : List V}
theorem Inv.lset {its its' : List Value} {n : Nat} {f : Array Value → Array Value} {t' : Nat} (I : Inv X pins σ H s) (hH : H l = some (.lst xs))
    (e : s.heap.get? l = some { cls := .type "list", data := .seq its.toArray n }) (hf : f its.toArray = its'.toArray) (hv : Vals ys its') (hz : ys.length ≤ sizeLine) :
    Inv X pins σ (upd H l (.lst ys)) { s with heap := s.heap.update l (Obj.mapSeq f), toks := t' } := by
  have q := PySem.IsL.update e f
  rw [hf] at q
  refine I.write (x := l) (e := l) (by rw [hH]; exact trivial) (.inl rfl) (fun b' u hb hu => (Heap.get?_update_other s.heap (Obj.mapSeq f) (Ne.symm hb)).trans hu) ⟨_, q⟩ ?_
  exact ⟨hz, its', _, hv, q⟩
theorem Inv.lnew {its : List Value} {t' : Nat} (I : Inv X pins σ H s) (hv : Vals ys its) (hz : ys.length ≤ sizeLine) :
    Inv X pins σ (upd H s.heap.objs.size (.lst ys)) { s with heap := s.heap.push { cls := .type "list", data := .seq its.toArray }, toks := t' } :=
  I.laid (fun _ _ q => Heap.get?_push_of_some _ q) (Nat.le_refl _) ⟨hz, its, 0, hv, Heap.get?_push_size _ rfl⟩
theorem Inv.fresh (I : Inv X pins σ H s) : H s.heap.objs.size = none := I.hok.fresh (Nat.le_refl _)
theorem Inv.lstM (I : Inv X pins σ H s) (hH : H l = some (.lst xs)) : xs.length ≤ sizeLine ∧ ∃ (its : List Value) (n : Nat), Vals xs its ∧ xs.length = its.length ∧ s.heap.get? l = some { cls := .type "list", data := .seq its.toArray n } := by
  obtain ⟨z, its, n, r, e⟩ := I.hok l _ hH
  exact ⟨z, its, n, r, r.length, e⟩
theorem notLongL {n : Nat} (h : n ≤ sizeLine) : Builtin.List.listTooLong n = false := by
  unfold Builtin.List.listTooLong
  exact decide_eq_false (by omega)
end
section
variable {X : Cx}
def rAppend : V → List V → Hp → VK → Prop := fun x vs H Q => ∃ l xs y, x = .ref l ∧ vs = [y] ∧ H l = some (.lst xs) ∧ xs.length < sizeLine ∧ Q .non (upd H l (.lst (xs ++ [y])))
theorem mt_append : MtM X "list.append" rAppend := by
  intro pins s σ H x vs v us Q I rx rv h
  obtain ⟨l, xs, y, rfl, rfl, hH, hz, q⟩ := h
  cases rx
  obtain ⟨u, rfl, ru⟩ := rv.one
  obtain ⟨z, its, n, r, hl, e⟩ := I.lstM hH
  refine call_meets F.slot_list_append ⟨_, e, rfl⟩ F.entry_list_append (F.args_list_append_2 _ _) (PySem.list_append l its.toArray n u (by rw [List.size_toArray]; omega)) ⟨e, ?_⟩
  refine ⟨.non, _, I.lset (its' := its ++ [u]) hH e (by simp) (r.append (.cons ru .nil)) ?_, rfl, q⟩
  rw [List.length_append, List.length_singleton]
  omega
def rPop : V → List V → Hp → VK → Prop := fun x vs H Q => ∃ l xs y, x = .ref l ∧ vs = [] ∧ H l = some (.lst xs) ∧ xs[xs.length - 1]? = some y ∧ Q y (upd H l (.lst xs.dropLast))
theorem mt_pop : MtM X "list.pop" rPop := by
  intro pins s σ H x vs v us Q I rx rv h
  obtain ⟨l, xs, y, rfl, rfl, hH, hy, q⟩ := h
  cases rx
  have hus := rv.zero
  subst hus
  obtain ⟨z, its, n, r, hl, e⟩ := I.lstM hH
  obtain ⟨u, hu, ru⟩ := r.get hy
  have hy' : its.toArray[its.toArray.size - 1]? = some u := by
    show its.toArray[its.length - 1]? = some u
    rw [← Array.getElem?_toList, ← hl]
    exact hu
  refine call_meets F.slot_list_pop ⟨_, e, rfl⟩ F.entry_list_pop (F.args_list_pop_1 _) (MeetsSeq.list_pop_last l its.toArray n u hy' (by rw [List.size_toArray]; omega)) ⟨e, ?_⟩
  refine ⟨y, _, I.lset (its' := its.dropLast) hH e ?_ r.dropLast ?_, ru, q⟩
  · show its.toArray.eraseIdxIfInBounds (its.toArray.size - 1) = its.dropLast.toArray
    rw [List.size_toArray, List.eraseIdxIfInBounds_toArray, erase_last]
  · rw [List.length_dropLast]
    omega
def rCat : R2 := fun x y H Q => ∃ l b xs zs, x = .ref l ∧ y = .ref b ∧ H l = some (.lst xs) ∧ H b = some (.lst zs) ∧ xs.length + zs.length ≤ sizeLine ∧ ∀ p, H p = none → Q (.ref p) (upd H p (.lst (xs ++ zs)))
theorem op_cat : OpR X (binaryOp .Add) rCat := by
  intro pins s σ H x y v u Q I rx ry h
  obtain ⟨l, b, xs, zs, rfl, rfl, hH, hB, hz, q⟩ := h
  cases rx
  cases ry
  obtain ⟨z, its, n, r, hl, e⟩ := I.lstM hH
  obtain ⟨z2, its2, n2, r2, hl2, e2⟩ := I.lstM hB
  refine PySem.P.add_list e e2 ?_ (by rw [List.size_toArray, List.size_toArray]; omega)
  have ea : its.toArray ++ its2.toArray = (its ++ its2).toArray := by simp
  rw [ea]
  exact ⟨.ref _, _, I.lnew (t' := s.toks) (r.append r2) (by rw [List.length_append]; omega), rfl, q _ I.fresh⟩
def rRep : R2 := fun x y H Q => ∃ l k xs, x = .ref l ∧ y = .int k ∧ H l = some (.lst xs) ∧ -(2 ^ 63) ≤ k ∧ k < 2 ^ 63 ∧ xs.length * k.toNat ≤ sizeLine ∧
  ∀ p, H p = none → Q (.ref p) (upd H p (.lst (List.replicate k.toNat xs).flatten))
theorem len_rep {α : Type} (xs : List α) (k : Nat) : (List.replicate k xs).flatten.length = k * xs.length := by
  induction k with
  | zero => simp
  | succ k ih => rw [List.replicate_succ, List.flatten_cons, List.length_append, ih, Nat.succ_mul, Nat.add_comm]
theorem op_rep : OpR X (binaryOp .Mult) rRep := by
  intro pins s σ H x y v u Q I rx ry h
  obtain ⟨l, k, xs, rfl, rfl, hH, h1, h2, hz, q⟩ := h
  cases rx
  obtain ⟨t, rfl⟩ := ry
  obtain ⟨z, its, n, r, hl, e⟩ := I.lstM hH
  have hlen : its.toArray.size * k.toNat ≤ sizeLine := by rw [List.size_toArray, ← hl]; exact hz
  have hcap : ¬ its.toArray.size * k.toNat > (2 ^ 63 - 1) / 8 := by
    have : (sizeLine : Nat) ≤ (2 ^ 63 - 1) / 8 := by decide
    omega
  have hfit : ¬ (!Builtin.List.listFitsIndex k) = true := by
    rw [fitsIndex_both h1 h2]
    exact Bool.false_ne_true
  have hlong : ¬ Builtin.List.listTooLong (its.toArray.size * k.toNat) = true := by
    rw [notLongL hlen]
    exact Bool.false_ne_true
  have hnew : List.foldl (fun x1 x2 => x1 ++ x2) #[] (List.replicate (if its.toArray.isEmpty = true then 0 else k.toNat) its.toArray) = (List.replicate k.toNat its).flatten.toArray := by
    have f0 : ∀ m : Nat, List.foldl (fun x1 x2 => x1 ++ x2) #[] (List.replicate m its.toArray) = (List.replicate m its).flatten.toArray := fun m => by
      have := foldl_rep its m []
      rw [List.nil_append] at this
      exact this
    rw [f0]
    cases its with
    | nil => simp
    | cons a r' => rw [if_neg (by simp)]
  refine wpAny_binaryOp_repeat_ref (T := "list") (U := "int") (by decide) ⟨_, e, rfl⟩ (fun s' => typeIs_int s' k t) noFill_list_mul F.fills_int_mul F.slot_int_rmul repeat_list F.slot_int_index.lookup
    (call_meets F.slot_int_rmul (typeIs_int s k t) F.entry_int_rmul (F.args_int_rmul_2 _ _) (int___rmul___int_list k t l its.toArray n)
      ⟨e, rfl, ⟨_, e, rfl⟩, call_meets F.slot_list_mul ⟨_, e, rfl⟩ F.entry_list_mul (F.args_list_mul_2 _ _) (AutoListH.list___mul___list_int_3 l its.toArray n k t hfit hcap hlong) ⟨e, ?_⟩⟩)
  rw [hnew]
  exact ⟨.ref _, _, I.lnew (t' := s.toks) (r.rep k.toNat) (by rw [len_rep, Nat.mul_comm]; exact hz), rfl, q _ I.fresh⟩
end
section
variable {prog : Program} {w : World} {A : Around} {E : Value → Shared → Prop} {s : Shared}
end
section
variable {X : Cx}
end
end L2
namespace Att
open PySem PySem.W PySem.Calls PyProof.Rows
theorem ints_of_wellAll {P : Params} {h : Heap} : ∀ (ns : List Int) (vs : List Value), WellAll P h vs (ns.map WData.int) → IntsAre vs ns := by
  intro ns
  induction ns with
  | nil =>
    intro vs w
    rw [List.map_nil] at w
    cases w
    exact .nil
  | cons n ns ih =>
    intro vs w
    rw [List.map_cons] at w
    cases w with
    | cons a b =>
      cases a
      exact .cons _ _ (ih _ b)
theorem script_of {l : OpenLaw} {n : Nat} (hn : l.most = some n) {P : Params} {h : Heap} {args : List WData} {vals : List Value}
    (hpre : l.row.toRowW.claim.pre args = true) (hwl : WellAll P h vals args) :
    ∃ a vs ns, vals = [Value.ref a] ∧ args = [WData.list (ns.map WData.int)] ∧ h.get? a = some { cls := .type "list", data := .seq vs.toArray } ∧ IntsAre vs ns ∧ ns.length ≤ n := by
  have hsh : WShape.hasAll [] args [.list .int] = true := (pre_splitW hpre).1
  have hc : l.pre.holds [] { args := args } = true := (pre_splitW hpre).2
  obtain ⟨d, r, rfl, h1, h2⟩ := hasAllW_cons hsh
  obtain rfl := hasAllW_nil h2
  obtain ⟨xs, rfl, h3⟩ := hasW_list h1
  obtain ⟨ns, rfl⟩ := items_int h3
  have hlen : ns.length ≤ n := by
    unfold OpenLaw.pre at hc
    have h4 : (WTm.not (.lt (.lit (.int (n : Int))) (.len (.arg 0)))).holds [] { args := [.list (ns.map .int)] } = true := by
      have h4 := (holds_andW hc).1
      rw [hn] at h4
      exact h4
    have h5 := condW_of h4 (w_not (w_lt w_lit (w_len_list (w_arg rfl))))
    rw [List.length_map] at h5
    refine Nat.le_of_not_lt fun q => ?_
    have q' : (n : Int) < ((ns.length : Nat) : Int) := by omega
    first
      | (rw [decide_eq_true q'] at h5; exact absurd h5 (by decide))
      | (simp at h5; omega)
  cases hwl with
  | cons w1 w2 =>
    cases w2
    cases w1 with
    | list ho hall => exact ⟨_, _, ns, rfl, rfl, ho, ints_of_wellAll ns _ hall, hlen⟩
theorem post_true (l : OpenLaw) (args : List WData) : l.row.toRowW.claim.post args (.bool true) args = true :=
  postW_of (r := l.row.toRowW) (X := (true == true))
    (show WShape.has [] (.bool true) .bool = true by first | rfl | decide | simp [WShape.has, WShape.arms, WShape.armsAll])
    (show (WTm.eq .res (.lit (.bool true))).value [] { args := args, res := some (.bool true), after := args } = some (.bool (true == true)) from w_eq_bool (w_res rfl) w_lit) rfl
theorem attach_call {l : OpenLaw} {n : Nat} {q : Program} {loose : List Str} {XP : (Str → Option Value) → Heap → Prop} {YP : World → Heap → Prop} {d : DefRec}
    (hn : l.most = some n) (hdf : d.params.defaults = [])
    (call : ∀ (w : World) (s₀ s₁ : Shared) (mg mb : Str → Option Value) (fa : Addr) (o : Obj) (pm cd doc : Value) (a : Addr) (vs : List Value) (ns : List Int),
      Ground q loose [] XP w s₀ mg mb s₁.heap → YP w s₁.heap →
      s₁.heap.get? fa = some o → o.data = .func (docDef d.name d.params d.body d.scope pm cd doc) → s₁.heap.CodeRec cd d.name → mg d.name = some (.ref fa) →
      s₁.heap.get? a = some { cls := .type "list", data := .seq vs.toArray } → IntsAre vs ns → ns.length ≤ n → s₁.gens = #[] →
      codeAny (model l.prog w) callerA (.call (.ref fa) ⟨[.ref a], []⟩) (fun r s' => r = .ok (.ret (.bool true)) ∧ OldK s₁.heap s'.heap ∧ s'.os = s₁.os ∧ AllBare s'.gens) s₁) :
    WalkO q loose XP YP l.row.toRowW d [] (fun f vs => PySem.call f vs) := by
  intro w s₀ s₁ mg mb G Y fa o pm cd doc dV kV ho hd hcd hD hmg hg args vals as hpre hlay hrd hwl hlo
  obtain rfl : dV = .none := Dflts.none hD hdf
  obtain rfl : kV = .none := Dflts.noKw hD
  obtain ⟨a, vs, ns, rfl, rfl, hobj, hints, hlen⟩ := script_of hn hpre hwl
  refine enter_call (codeAny_mono (call w s₀ s₁ mg mb fa o pm cd doc a vs ns G Y ho (fd_plain hd) hcd hmg hobj hints hlen hg) fun r s' hq => ?_)
  obtain ⟨rfl, h2, h3, h4⟩ := hq
  exact ⟨.inl ⟨.bool true, .bool true, [], rfl, fun _ => rfl, .bool true, post_true l _, fun _ => ⟨List.Pairwise.nil, fun _ hm => (nomatch hm)⟩⟩, h2, h3, h4⟩
section
variable {prog : Program} {w : World} {A : Around} {E : Value → Shared → Prop} {s : Shared} {K : Frag}
end
end Att
namespace L2
open PySem PySem.Spec PyProof.Rows
theorem vals_ints : ∀ {vs : List Value} {ns : List Int}, IntsAre vs ns → Vals (ns.map V.int) vs
  | _, _, .nil => .nil
  | _, _, .cons n t h => .cons ⟨t, rfl⟩ (vals_ints h)
def Only (H : Hp) : Prop := ∀ b, H b = none ∨ ∃ o xs, H b = some (.frz o (.lst xs))
theorem law_call {P : Program} {w : World} {K : PySem.W.Frag} {mg mb : Str → Option Value} {CX : CXT} {k : Nat} {fa a : Addr} {fd : FuncData} {x : Str} {sp : Sp} {s₁ : Shared} {vs : List Value} {ns : List Int}
    (KX : K.In s₁.heap) (hns : s₁.heap.Ns mainGlobals mg) (hb : s₁.heap.Ns builtinsNs mb) (hbb : ∀ x : Str, x ≠ "__name__" → mb x = bootBuiltins x) (hlim : s₁.heap.NoLimit) (hg : s₁.gens = #[])
    (ha : s₁.heap.get? a = some { cls := .type "list", data := .seq vs.toArray }) (hi : IntsAre vs ns) (hl : ns.length ≤ sizeLine) (hr : Room k callerA)
    (F : ∀ base : Heap, K.In base → base.Ns mainGlobals mg → FnOk P w K mg base CX k fa fd [x] sp) (hbind : ∀ (s : Shared) (u : Value), BindsTo s fd ⟨[u], []⟩ [(x, u)])
    (hsp : ∀ H : Hp, Only H → SqL K H a (ns.map V.int) → sp [.ref a] H (fun v _ => v = .bl true) fun _ _ _ => False)
    (hCX : ∀ H e s', CX [] H s₁ (fun _ _ _ => False) e s' → False) :
    codeAny (model P w) callerA (.call (.ref fa) ⟨[.ref a], []⟩) (fun r s' => r = .ok (.ret (.bool true)) ∧ OldK s₁.heap s'.heap ∧ s'.os = s₁.os ∧ AllBare s'.gens) s₁ := by
  have rv := vals_ints hi
  have lenV := hi.length
  have core : ∀ H : Hp, Only H → SqL K H a (ns.map V.int) → HOk P w H s₁.heap → (∀ b, H b ≠ none → b = a) → (H a ≠ none → K.lookup a = none) →
      codeAny (model P w) callerA (.call (.ref fa) ⟨[.ref a], []⟩) (fun r s' => r = .ok (.ret (.bool true)) ∧ OldK s₁.heap s'.heap ∧ s'.os = s₁.os ∧ AllBare s'.gens) s₁ := by
    intro H hO hS hok hA hK
    have base_of : ∀ {b : Addr} {o : Obj}, s₁.heap.get? b = some o → H b = none → (hidT s₁.heap H).get? b = some o := fun e n => hidT_get e n
    have noA : ∀ {b : Addr} {o : Obj} {es : Array DictEntry} {ep : Nat}, s₁.heap.get? b = some o → o.data = .dict es ep → H b = none := fun {b o es ep} e d => by
      cases q : H b with
      | none => rfl
      | some u =>
        have e' : b = a := hA b (by rw [q]; simp)
        subst e'
        rw [ha] at e; cases e
        have d' : Data.seq vs.toArray _ = Data.dict es ep := d
        cases d'
    have nsK : ∀ {b : Addr} {m : Str → Option Value}, s₁.heap.Ns b m → (hidT s₁.heap H).Ns b m := fun {b m} ⟨o, es, ep, e, d, r⟩ => ⟨o, es, ep, base_of e (noA e d), d, r⟩
    have hKb : K.In (hidT s₁.heap H) := fun b o e => base_of (KX b o e) (by
      cases q : H b with
      | none => rfl
      | some u =>
        have e' : b = a := hA b (by rw [q]; simp)
        subst e'
        rw [hK (by rw [q]; simp)] at e; cases e)
    have hM : Mod K mg (hidT s₁.heap H) := ⟨hKb, nsK hns, ⟨mb, nsK hb, hbb⟩, let ⟨mc, h1, h2⟩ := hlim; ⟨mc, nsK h1, h2⟩⟩
    have e0 : Env0 P w K mg (hidT s₁.heap H) callerA [] s₁ H := ⟨rfl, hM, fun b o e => of_hidT e, Nat.le_of_eq (hidT_size _ _), trivial, fun b hb => absurd (show b ∈ ([] : List Addr) from hb) (by simp), hok, .of_eq hg⟩
    refine codeAny_mono ((F _ hKb (nsK hns)).run callerA [] s₁ H ⟨[.ref a], []⟩ [.ref a] [.ref a] _ _ hr e0 (hbind s₁ (.ref a)) (.cons rfl .nil) (hsp H hO hS)) fun r s' h => ?_
    cases r with
    | error e => exact (hCX H e s' h).elim
    | ok fl =>
      cases fl with
      | next => exact False.elim h
      | brk => exact False.elim h
      | cont => exact False.elim h
      | ret u =>
        obtain ⟨v, H', os, bare, un, hok', r', q⟩ := h
        have q' : v = .bl true := q
        subst q'
        obtain rfl : u = Value.bool true := r'
        refine ⟨rfl, OldK.of_keep fun b o e => ?_, os, bare⟩
        cases q : H b with
        | none => exact un.keep b o e q (by intro z; exact absurd (show b ∈ ([] : List Addr) from z) (by simp)) (by simp)
        | some u =>
          rcases hO b with z | ⟨ob, xs, z⟩
          · rw [q] at z; cases z
          · have z2 := un.frzs b ob _ z
            obtain ⟨e1, _⟩ := hok b _ z
            obtain ⟨e2, _⟩ := hok' b _ z2
            rw [e] at e1; cases e1
            exact e2
  cases hk : K.lookup a with
  | some o =>
    have e := KX a o hk
    rw [ha] at e
    cases e
    refine core (fun _ => none) (fun _ => .inl rfl) (.inr ⟨_, vs.toArray, _, hk, rfl, rfl, rfl, by rw [List.size_toArray, lenV]; exact hl, by simpa using rv⟩) (fun b u z => by have z' : (none : Option HO) = some u := z; cases z') (fun b z => absurd rfl z) fun z => absurd rfl z
  | none =>
    refine core (fun b => if b = a then some (.frz { cls := .type "list", data := .seq vs.toArray } (.lst (ns.map V.int))) else none) (fun b => ?_) (.inl (.inr ⟨{ cls := .type "list", data := .seq vs.toArray }, if_pos rfl⟩)) (fun b u z => ?_) (fun b z => ?_) fun _ => hk
    · by_cases hb : b = a
      · exact .inr ⟨_, _, if_pos hb⟩
      · exact .inl (if_neg hb)
    · by_cases hb : b = a
      · have z' := (if_pos hb).symm.trans z
        cases z'
        subst hb
        exact ⟨ha, by rw [List.length_map]; exact hl, vs, _, rv, ha⟩
      · have z' := (if_neg hb).symm.trans z
        cases z'
    · by_cases hb : b = a
      · exact hb
      · exact absurd (if_neg hb) z
end L2
namespace L2
open PySem PySem.Spec PyProof.Rows
theorem walk_of {l : PySem.W.OpenLaw} {n k : Nat} {q : Program} {loose : List Str} {XP : (Str → Option Value) → Heap → Prop} {YP : World → Heap → Prop} {d : DefRec} {K : Params → PySem.W.Frag} {CX : World → CXT} {sp : World → Sp} {x : Str}
    (hn : l.most = some n) (hn2 : n ≤ sizeLine) (hdf : d.params.defaults = []) (hr : Room k callerA)
    (hY : ∀ (w : World) (h : Heap), YP w h → (K w.params).In h)
    (F : ∀ (w : World) (mg : Str → Option Value) (fa : Addr) (h : Heap), (K w.params).In h → h.Ns mainGlobals mg → mg d.name = some (.ref fa) →
      ∃ fd : FuncData, (∀ (s : Shared) (u : Value), BindsTo s fd ⟨[u], []⟩ [(x, u)]) ∧
        ∀ base : Heap, (K w.params).In base → base.Ns mainGlobals mg → FnOk l.prog w (K w.params) mg base (CX w) k fa fd [x] (sp w))
    (hsp : ∀ (w : World) (H : Hp) (a : Addr) (ns : List Int), ns.length ≤ n → Only H → SqL (K w.params) H a (ns.map V.int) → sp w [.ref a] H (fun v _ => v = .bl true) fun _ _ _ => False)
    (hCX : ∀ (w : World) (H : Hp) (s : Shared) (e : Value) (s' : Shared), CX w [] H s (fun _ _ _ => False) e s' → False) :
    PySem.W.WalkO q loose XP YP l.row.toRowW d [] (fun f vs => PySem.call f vs) := by
  refine Att.attach_call hn hdf fun w s₀ s₁ mg mb fa o pm cd doc a vs ns G Y ho hd hcd hmg hobj hints hlen hg => ?_
  have KX := hY w _ Y
  obtain ⟨fd, hb, hF⟩ := F w mg fa _ KX G.T.g hmg
  exact law_call KX G.T.g G.T.b G.T.builtins G.T.nolimit hg hobj hints (Nat.le_trans hlen hn2) hr hF hb (fun H hO hS => hsp w H a ns hlen hO hS) fun H e s' => hCX w H s₁ e s'
end L2
namespace L2
open PySem PySem.Spec PyProof.Rows
def inClass (s : Stmt) (j : Nat) : Stmt := match s with
  | .ClassDef _ _ _ body _ _ _ _ _ _ _ => body.getD j (.Pass ⟨0, 0, 0, 0⟩)
  | _ => .Pass ⟨0, 0, 0, 0⟩
def defArgs (s : Stmt) : Arguments := match s with
  | .FunctionDef _ a _ _ _ _ _ _ _ _ => a
  | _ => { posonlyargs := [], args := [], vararg := none, kwonlyargs := [], kw_defaults := [], kwarg := none, defaults := [] }
def defBody (s : Stmt) : List Stmt := match s with
  | .FunctionDef _ _ b _ _ _ _ _ _ _ => b
  | _ => []
def defScope (s : Stmt) : Scope := match s with
  | .FunctionDef _ _ _ _ _ _ sc _ _ _ => sc
  | _ => { kind := .function, names := [], isGenerator := false, isCoroutine := false }
abbrev CX0 : CXT := fun _ _ _ _ _ _ => False
abbrev E0 : XK := fun _ _ _ => False
theorem pass0 {X : Cx} : Passes CX0 X E0 := fun _ _ _ _ _ _ _ h => h.elim
structure Fun (K : PySem.W.Frag) (x qual : Str) (st : Stmt) (f : Addr) (fd : FuncData) : Prop where
  ex : ∃ (oc : Value) (od : Option Addr) (kV doc pm : Value) (an : Option Addr) (cdv ct : Value) (osl : Array (Option Value)),
    fd = PySem.W.fnOf x qual (defArgs st) (defBody st) (defScope st) .none kV doc pm an cdv ct ∧ K.lookup f = some ⟨oc, od, .func fd, osl⟩ ∧ PySem.W.codeIn K cdv qual = true
  kp : PySem.W.keepIn K (.ref f) = true
section
variable {P : Program} {w : World} {K : PySem.W.Frag} {mg : Str → Option Value} {base : Heap}
theorem Fun.ok {x qual : Str} {st : Stmt} {f : Addr} {fd : FuncData} {N ps : List Str} {k : Nat} {sp : Sp} (F : Fun K x qual st f fd) (S : FnScope N ps (defScope st)) (len : ∀ vs H Q E, sp vs H Q E → vs.length = ps.length)
    (hbody : ∀ (cdv : Value) (A : Around) (outer : List Env) (s : Shared) (H : Hp) (vs : List V) (Q : VK) (E : XK), Room k (A.deeper (envOfC qual (defScope st) s.heap.objs.size f cdv)) → sp vs H Q E →
      ∃ t, PSs (cxOf CX0 P w K mg base N qual (defScope st) f cdv A outer s H E).nox (defBody st) t ∧ t { nx := fun _ H' => Q .non H', rt := Q } (start N vs) H) : FnOk P w K mg base CX0 (k + 1) f fd ps sp := by
  obtain ⟨oc, od, kV, doc, pm, an, cdv, ct, osl, rfl, lk, hcd⟩ := F.ex
  refine fn_of lk hcd S len fun A outer s H vs Q E hr hsp => ?_
  obtain ⟨t, h, q⟩ := hbody cdv A outer s H vs Q E hr hsp
  exact ⟨t, h.nox, q⟩
theorem Fun.binds {x qual : Str} {st : Stmt} {f : Addr} {fd : FuncData} {ps : List Str} (F : Fun K x qual st f fd)
    (h : ∀ (kV doc pm : Value) (an : Option Addr) (cdv ct : Value) (us : List Value), us.length = ps.length → bindArgs (PySem.W.fnOf x qual (defArgs st) (defBody st) (defScope st) .none kV doc pm an cdv ct) ⟨us, []⟩ = pure (ps.zip us)) : Binds K fd ps [] := by
  obtain ⟨oc, od, kV, doc, pm, an, cdv, ct, osl, rfl, lk, hcd⟩ := F.ex
  exact .all (h kV doc pm an cdv ct)
theorem fun_mk {x qual : Str} {st : Stmt} {f : Addr} {oc : Value} {od an : Option Addr} {osl : Array (Option Value)} {kV doc pm cdv ct : Value} (l : K.lookup f = some ⟨oc, od, .func (PySem.W.fnOf x qual (defArgs st) (defBody st) (defScope st) .none kV doc pm an cdv ct), osl⟩)
    (c : PySem.W.codeIn K cdv qual = true) (k : PySem.W.keepIn K (.ref f) = true) : Fun K x qual st f (PySem.W.fnOf x qual (defArgs st) (defBody st) (defScope st) .none kV doc pm an cdv ct) := ⟨⟨oc, od, kV, doc, pm, an, cdv, ct, osl, rfl, l, c⟩, k⟩
end
section
variable {X : Cx}
theorem pv (i : Nat) {x : Str} {pos : Pos} (hN : X.N[i]? = some x := by rfl) (hv : Vis X.env.scope x := by first | exact Or.inl rfl | exact Or.inr (Or.inl rfl) | exact Or.inr (Or.inr rfl)) (hd : (x == ("__debug__" : Str)) = false := by decide)
    (hcd : (x == ("__classdict__" : Str)) = false := by decide) : PE X (.Name x pos) (tVar i) := pe_var hN hv hd hcd
end
theorem ite2 {c A B : Prop} [Decidable c] (h1 : c → A) (h2 : ¬ c → B) : if c then A else B := by
  by_cases h : c
  · rw [if_pos h]
    exact h1 h
  · rw [if_neg h]
    exact h2 h
def Same (H H' : Hp) : Prop := ∀ b o, H b = some o → H' b = some o
theorem Same.refl (H : Hp) : Same H H := fun _ _ h => h
theorem Same.trans {H H1 H2 : Hp} (a : Same H H1) (b : Same H1 H2) : Same H H2 := fun c o h => b c o (a c o h)
theorem Same.free {H H' : Hp} (e : Same H H') {l : Addr} (h : H' l = Option.none) : H l = Option.none := by
  cases q : H l with
  | none => rfl
  | some o =>
    rw [e l o q] at h
    cases h
theorem Same.seq {K : PySem.W.Frag} {H H' : Hp} {a : Addr} {xs : List V} (e : Same H H') (h : SqL K H a xs) : SqL K H' a xs := by
  rcases h with (h | ⟨o, h⟩) | h
  · exact .inl (.inl (e _ _ h))
  · exact .inl (.inr ⟨o, e _ _ h⟩)
  · exact .inr h
end L2
namespace L2
open PySem PySem.Spec PyProof.Rows
theorem wpAny_unpure {α β : Type} {M : Model} {A : Around} {a : α} {Q : α → Shared → Prop} {E : Value → Shared → Prop} {s : Shared} {t2 : Sem β} {Q2 : β → Shared → Prop} {E2 : Value → Shared → Prop}
    (h : wpAny M A (pure a : Sem α) Q E s) (k : Q a s → wpAny M A t2 Q2 E2 s) : wpAny M A t2 Q2 E2 s := fun Γ p hΓ => k (h Γ p hΓ) Γ p hΓ
def PTs (X : Cx) (ifs : List Expr) (t : TT) : Prop :=
  ∀ (pins : List (Addr × Obj)) (s : Shared) (σ : St) (H : Hp) (Q : Bool → Hp → Prop), Inv X pins σ H s → t σ H Q →
    wpAny (model X.prog X.w) X.A (forIn ifs true fun c r => if r = true then do let ok ← isTrue c X.env (eval c X.env); pure (ForInStep.yield ok) else pure (ForInStep.yield r)) (TP X pins σ Q) X.xe s
def tNoTest : TT := fun _ H Q => Q true H
theorem pts_nil {X : Cx} : PTs X [] tNoTest := fun _ _ _ H _ I h => wpAny_tests_nil ⟨H, I, h⟩
theorem pts_one {X : Cx} {c : Expr} {t : TT} (h : PT X c t) : PTs X [c] t := fun pins s σ H Q I hq => wpAny_tests_one (h pins s σ H Q I hq)
def clOf (cells : List (Str × Addr)) (names : List (Str × NameKind)) (acc : List (Str × Addr)) : List (Str × Addr) :=
  match names with
  | [] => acc
  | (n, k) :: r => clOf cells r (if k == .free then (n, (cells.lookup n).getD 0) :: acc else acc)
theorem closure_loop {env : Env} : ∀ (names : List (Str × NameKind)) (acc : List (Str × Addr)), (∀ y ∈ names, y.2 = .free → ∃ c, env.cells.lookup y.1 = some c) →
    (forIn names acc fun (x : Str × NameKind) (r : List (Str × Addr)) => if (x.2 == .free) = true then (do let a ← cellOf env x.1; pure (ForInStep.yield ((x.1, a) :: r)) : Sem (ForInStep (List (Str × Addr)))) else pure (ForInStep.yield r)) = (pure (clOf env.cells names acc) : Sem (List (Str × Addr)))
  | [], acc, _ => rfl
  | (n, k) :: r, acc, h => by
    have ih := closure_loop (env := env) r
    rw [List.forIn_cons]
    by_cases hk : (k == NameKind.free) = true
    · obtain ⟨c, hc⟩ := h (n, k) List.mem_cons_self (by simpa using hk)
      have hc' : cellOf env n = pure c := by unfold cellOf; rw [hc]
      dsimp only
      rw [if_pos hk, hc']
      have e : clOf env.cells ((n, k) :: r) acc = clOf env.cells r ((n, c) :: acc) := by
        show clOf env.cells r (if (k == NameKind.free) = true then (n, (env.cells.lookup n).getD 0) :: acc else acc) = _
        rw [if_pos hk, hc]; rfl
      rw [e, ← ih ((n, c) :: acc) fun y hy => h y (List.mem_cons_of_mem _ hy)]
      rfl
    · dsimp only
      rw [if_neg hk]
      have e : clOf env.cells ((n, k) :: r) acc = clOf env.cells r acc := by
        show clOf env.cells r (if (k == NameKind.free) = true then (n, (env.cells.lookup n).getD 0) :: acc else acc) = _
        rw [if_neg hk]
      rw [e, ← ih acc fun y hy => h y (List.mem_cons_of_mem _ hy)]
      rfl
theorem closureFor_some {scope : Scope} {env : Env} (h : ∀ y ∈ scope.names, y.2 = .free → ∃ c, env.cells.lookup y.1 = some c) : closureFor scope env = pure (clOf env.cells scope.names []) := by
  unfold closureFor
  have e := closure_loop (env := env) scope.names [] h
  first
    | exact e
    | (simp only [bind_pure_comp, map_pure] at *; exact e)
    | (rw [← e]; simp)
theorem clOf_mem {cells : List (Str × Addr)} : ∀ (names : List (Str × NameKind)) (acc : List (Str × Addr)) (p : Str × Addr), (∀ y ∈ names, y.2 = .free → ∃ c, cells.lookup y.1 = some c) → p ∈ clOf cells names acc → p ∈ acc ∨ (cells.lookup p.1 = some p.2 ∧ (p.1, NameKind.free) ∈ names)
  | [], acc, p, _, h => .inl h
  | (n, k) :: r, acc, p, hn, h => by
    have h' : p ∈ clOf cells r (if (k == NameKind.free) = true then (n, (cells.lookup n).getD 0) :: acc else acc) := h
    rcases clOf_mem r _ p (fun y hy => hn y (List.mem_cons_of_mem _ hy)) h' with q | ⟨q1, q2⟩
    · by_cases hk : (k == NameKind.free) = true
      · rw [if_pos hk] at q
        rcases List.mem_cons.mp q with e | q
        · have hk' : k = .free := by simpa using hk
          obtain ⟨c, hc⟩ := hn (n, k) List.mem_cons_self hk'
          subst e
          refine .inr ⟨?_, ?_⟩
          · show cells.lookup n = some ((cells.lookup n).getD 0)
            have hc' : cells.lookup n = some c := hc
            rw [hc']; rfl
          · rw [← hk']; exact List.mem_cons_self
        · exact .inl q
      · rw [if_neg hk] at q
        exact .inl q
    · exact .inr ⟨q1, List.mem_cons_of_mem _ q2⟩
theorem clOf_has {cells : List (Str × Addr)} : ∀ (names : List (Str × NameKind)) (acc : List (Str × Addr)) (n : Str), ((n, NameKind.free) ∈ names ∨ ∃ c, (n, c) ∈ acc) → ∃ c, (n, c) ∈ clOf cells names acc
  | [], acc, n, h => by
    rcases h with h | h
    · cases h
    · exact h
  | (m, k) :: r, acc, n, h => by
    show ∃ c, (n, c) ∈ clOf cells r (if (k == NameKind.free) = true then (m, (cells.lookup m).getD 0) :: acc else acc)
    refine clOf_has r _ n ?_
    rcases h with h | ⟨c, h⟩
    · rcases List.mem_cons.mp h with e | h
      · injection e with e1 e2
        subst e1; subst e2
        exact .inr ⟨_, by rw [if_pos (show (NameKind.free == NameKind.free) = true from rfl)]; exact List.mem_cons_self⟩
      · exact .inl h
    · refine .inr ⟨c, ?_⟩
      split
      · exact List.mem_cons_of_mem _ h
      · exact h
theorem lookup_of_mem {α : Type} {n : Str} {c : α} : ∀ {l : List (Str × α)}, (n, c) ∈ l → ∃ d, l.lookup n = some d ∧ (n, d) ∈ l
  | (m, d) :: r, h => by
    by_cases e : n = m
    · subst e
      exact ⟨d, by simp [List.lookup_cons], List.mem_cons_self⟩
    · rcases List.mem_cons.mp h with q | q
      · injection q with q1 _
        exact absurd q1 e
      · obtain ⟨d', h1, h2⟩ := lookup_of_mem q
        refine ⟨d', ?_, List.mem_cons_of_mem _ h2⟩
        rw [List.lookup_cons]
        have : (n == m) = false := beq_eq_false_iff_ne.mpr e
        rw [this]; exact h1
structure CompScope (N : List Str) (sc scope : Scope) (x : Str) (caps : List Nat) (ns : List Str) : Prop where
  cell : ∀ y ∈ scope.names, y.2 ≠ .cell
  kind : scope.kind = .function
  names : ∀ y ∈ scope.names, y.2 = .local → scope.names.lookup y.1 = some .local
  var : scope.names.lookup x = some .local
  free : ∀ y ∈ scope.names, y.2 = .free → sc.names.lookup y.1 = some .cell ∨ sc.names.lookup y.1 = some .free
  at_ : caps.map (fun j => N[j]?) = ns.map some
  nsf : ∀ y ∈ ns, scope.names.lookup y = some .free
  nd : (x :: ns).Nodup
def Cx.comp (X : Cx) (N' : List Str) (scope : Scope) (cl : List (Str × Addr)) (C : Addr) (s : Shared) (H : Hp) (fp : List Addr) : Cx :=
  { X with N := N', s₀ := s, H₀ := H, env := compEnvC scope cl C X.env, outer := X.stack, ex := fp, fn := fun _ => false, xe := fun _ _ => False }
def capσ (caps : List Nat) (σ : St) (v : Option V) : St := v :: caps.map fun j => (σ[j]?).getD none
def tCompR (wi : TI) (caps : List Nat) (tt : TT) (te : TE) (σ : St) (H : Hp) (R : List V → Hp → Prop) : Prop := wi σ H fun J H1 => ∃ W : Nat → Nat → List V → Hp → Prop, (∃ m, W 0 m [] H1) ∧ ∀ i m ys H, W i m ys H →
  ys.length ≤ sizeLine ∧ ((J.stop i H ∧ R ys H) ∨ (J.go i H ∧ ∃ N : List V → Hp → Prop, (∀ ys' H', N ys' H' → ∃ m', m' < m ∧ W (i + 1) m' ys' H') ∧ ∀ v H', J.yld i H v H' → tt (capσ caps σ (some v)) H' fun b H2 =>
    if b = true then te (capσ caps σ (some v)) H2 fun y H3 => N (ys ++ [y]) H3 else N ys H2))
def tComp (wi : TI) (caps : List Nat) (tt : TT) (te : TE) : TE := fun σ H Q => tCompR wi caps tt te σ H fun ys H1 => ∀ D, H1 D = none → Q (.ref D) (upd H1 D (.lst ys))
theorem kindOf_relabel {scope : Scope} {env : Env} {y : Str} (h : ((relabel scope env).names.lookup y = some .cell ∨ (relabel scope env).names.lookup y = some .free)) (hc : ∀ y ∈ scope.names, y.2 ≠ .cell) : (y, NameKind.free) ∈ scope.names := by
  have h' : ∃ k, (k = .cell ∨ k = .free) ∧ (y, k) ∈ (relabel scope env).names := by
    rcases h with h | h
    · exact ⟨_, .inl rfl, PySem.mem_of_lookup h⟩
    · exact ⟨_, .inr rfl, PySem.mem_of_lookup h⟩
  obtain ⟨k, hk, hm⟩ := h'
  unfold relabel at hm
  obtain ⟨⟨n, k0⟩, hm0, e⟩ := List.mem_map.mp hm
  dsimp only at e
  split at e
  · rename_i hcond
    injection e with e1 e2
    subst e1
    have : k0 = .free := by
      simp only [Bool.and_eq_true] at hcond
      simpa using hcond.1.1
    subst this
    exact hm0
  · injection e with e1 e2
    subst e1; subst e2
    rcases hk with rfl | rfl
    · exact absurd rfl (hc _ hm0)
    · exact hm0
theorem lookup_relabel_free {env : Env} : ∀ {names : List (Str × NameKind)} {x : Str}, names.lookup x = some .free →
    (names.map fun (n, k) => if (k == NameKind.free && env.scope.kind == .function && env.kindOf n == some .cell) then (n, NameKind.cell) else (n, k)).lookup x = some .cell ∨
    (names.map fun (n, k) => if (k == NameKind.free && env.scope.kind == .function && env.kindOf n == some .cell) then (n, NameKind.cell) else (n, k)).lookup x = some .free
  | [], _, h => by simp at h
  | (n, k) :: r, x, h => by
    have ih := @lookup_relabel_free env r x
    show (List.lookup x ((if (k == NameKind.free && env.scope.kind == .function && env.kindOf n == some .cell) = true then (n, NameKind.cell) else (n, k)) :: _) = _) ∨ (List.lookup x ((if (k == NameKind.free && env.scope.kind == .function && env.kindOf n == some .cell) = true then (n, NameKind.cell) else (n, k)) :: _) = _)
    cases hx : x == n with
    | true =>
      simp only [List.lookup_cons, hx] at h
      cases h
      split
      · left; simp [List.lookup_cons, hx]
      · right; simp [List.lookup_cons, hx]
    | false =>
      simp only [List.lookup_cons, hx] at h
      by_cases hc : (k == NameKind.free && env.scope.kind == .function && env.kindOf n == some .cell) = true
      · rw [if_pos hc]; simp only [List.lookup_cons, hx]; exact ih h
      · rw [if_neg hc]; simp only [List.lookup_cons, hx]; exact ih h
section
variable {X : Cx}
theorem comp_core {x : Str} {px : Pos} {iter elt : Expr} {ifs : List Expr} {scope : Scope} {pos pos' : Pos} {wi : TI} {tt : TT} {te : TE} {caps : List Nat} {ns : List Str} {use : Option (Value → Sem Unit)} {Q : Value → Shared → Prop}
    {pins : List (Addr × Obj)} {s : Shared} {σ : St} {H : Hp} {R : List V → Hp → Prop}
    (CS : CompScope X.N X.env.scope scope x caps ns) (hc : X.calm = true) (hi : PI X (.Name x px) iter wi)
    (ht : ∀ cl C s H fp, PTs (X.comp (x :: ns) scope cl C s H fp) ifs tt) (he : ∀ cl C s H fp, PE (X.comp (x :: ns) scope cl C s H fp) elt te)
    (hs : ∀ v, foldedSetIterable iter X.env v = pure v)
    (I : Inv X pins σ H s) (h : tCompR wi caps tt te σ H R)
    (hend : ∀ D C s' H' ys, Inv X pins σ (upd H' D (.lst ys)) s' → H' D = none → R ys H' → (∃ m, s'.heap.Ns C m) → (upd H' D (.lst ys)) C = none → C ≠ X.env.locals → X.s₀.heap.objs.size ≤ C → (∀ y c, X.env.cells.lookup y = some c → c ≠ C) → (∀ p ∈ X.pn ++ pins, p.1 ≠ C) →
      compPost (model X.prog X.w) X.A X.xe use Q (.ref D) C (.ok .next) s') :
    wpAny (model X.prog X.w) X.A (comprehension (.ListComp elt [⟨.Name x px, iter, ifs, 0⟩] scope pos) scope X.env pos' (newList []) false (eval iter X.env) use) Q X.xe s := by
  have hcells : ∀ y ∈ scope.names, y.2 = .free → ∃ c, X.env.cells.lookup y.1 = some c := fun y hy hf => I.ok.has y.1 (CS.free y hy hf)
  refine wpAny_comprehension_free (use := use) rfl hs (closureFor_some hcells) CS.kind CS.names ?_
  refine thn (hi pins s σ H _ I h) fun v s1 h1 => thn h1 fun itv s2 h2 => ?_
  obtain ⟨it, fp, tn, J, H2, e, I2, T, st2, f2, W, ⟨m0, w0⟩, turn⟩ := h2
  subst e
  refine wpAny_newObj_type (wpAny_newFunctionEnv CS.cell (by intro y hy; simp at hy) (fun h₁ hns₁ hsb₁ => ?_) CS.kind)
  dsimp only at hns₁ hsb₁ ⊢
  generalize hHH : s2.heap.push { cls := .type "list", dict := none, data := .seq ([] : List Value).toArray } = HH at hns₁ hsb₁ ⊢
  have hC : HH.objs.size = s2.heap.objs.size + 1 := by rw [← hHH, Heap.size_push]
  generalize hCe : HH.objs.size = C at hns₁ hsb₁ hC ⊢
  have hDC : s2.heap.objs.size ≠ C := by rw [hC]; exact Nat.ne_of_lt (Nat.lt_succ_self _)
  have below : ∀ b, b < s2.heap.objs.size → b ≠ C ∧ b ≠ s2.heap.objs.size := fun b hb => ⟨by rw [hC]; exact Nat.ne_of_lt (Nat.lt_succ_of_lt hb), Nat.ne_of_lt hb⟩
  have old : ∀ b o, s2.heap.get? b = some o → h₁.get? b = some o := fun b o e => hsb₁.extBut b o (below b (Heap.lt_size e)).1 (Heap.get?_push_of_some _ (hHH ▸ Heap.get?_push_of_some _ e))
  have hacc : h₁.get? s2.heap.objs.size = some (LCg.lst []) := hsb₁.extBut _ _ hDC (Heap.get?_push_of_some _ (hHH ▸ Heap.get?_push_size _ rfl))
  have nfp : ∀ b ∈ fp, b < s2.heap.objs.size := fun b hb => let ⟨o, e, _⟩ := T.obj _ _ st2 b hb; Heap.lt_size e
  have clsub : ∀ y c, (clOf X.env.cells scope.names []).lookup y = some c → X.env.cells.lookup y = some c := fun y c e => by
    rcases clOf_mem scope.names [] (y, c) hcells (PySem.mem_of_lookup e) with q | q
    · cases q
    · exact q.1
  have fresh2 : ∀ a, s2.heap.objs.size ≤ a → H2 a = none := fun a ha => I2.hok.fresh ha
  generalize hcl : clOf X.env.cells scope.names [] = cl at clsub ⊢
  have clhas : ∀ y, (y, NameKind.free) ∈ scope.names → ∃ c, cl.lookup y = some c := fun y hy => by
    obtain ⟨c, q⟩ := clOf_has (cells := X.env.cells) scope.names [] y (.inl hy)
    rw [hcl] at q
    obtain ⟨d, q1, _⟩ := lookup_of_mem q
    exact ⟨d, q1⟩
  have ltC : ∀ y c, X.env.cells.lookup y = some c → c < s2.heap.objs.size := fun y c e => let ⟨v, z⟩ := I2.cell y c e; z.lt
  have ok' : (X.comp (x :: ns) scope cl C s2 H2 fp).Ok := by
    refine ⟨I2.ok.mod, CS.kind, I2.ok.glob, I2.ok.blt, (by show s2.heap.objs.size ≤ C; rw [hC]; exact Nat.le_succ _), fun y z c a b => I2.ok.inj y z c (clsub y c a) (clsub z c b), fun y hy => clhas y (kindOf_relabel hy CS.cell), fun y c z => (by cases z), I2.ok.hd, I2.ok.frames, .inl rfl,
      fun b hb => ⟨(below b (nfp b hb)).1, fun y c e z => (f2 b hb).2.2.2.2.1 y c (clsub y c e) z⟩, fun b o e => I2.bs b o e, Nat.le_trans I2.ok.bsz I2.sz, fun b o e hb => ?_, fun b hb hf => ?_, I2.stack, I2.stkFree⟩
    · rcases (f2 b hb).2.2.2.1 with z | z
      · exact I2.ok.noex b o e z
      · exact absurd (Nat.lt_of_lt_of_le (Heap.lt_size e) (Nat.le_trans I2.ok.bsz z)) (Nat.lt_irrefl _)
    · rcases List.mem_cons.mp (I2.stkSub b hf) with z | z
      · exact (f2 b hb).2.1 z
      · exact (f2 b hb).2.2.1 z
  have capget : ∀ (k : Nat) (y : Str) (v : V), (x :: ns)[k]? = some y → (capσ caps σ none)[k]? = some (some v) → ∃ j, X.N[j]? = some y ∧ σ[j]? = some (some v) ∧ scope.names.lookup y = some .free := fun k y v e1 e2 => by
    cases k with
    | zero => cases e2
    | succ k =>
      have e1' : ns[k]? = some y := by simpa using e1
      have e2' : (caps.map fun j => (σ[j]?).getD none)[k]? = some (some v) := by simpa [capσ] using e2
      have e3 : (ns.map some)[k]? = some (some y) := by rw [List.getElem?_map, e1']; rfl
      rw [← CS.at_, List.getElem?_map] at e3
      rw [List.getElem?_map] at e2'
      cases hj : caps[k]? with
      | none => rw [hj] at e3; cases e3
      | some j =>
        rw [hj] at e3 e2'
        have e4 : X.N[j]? = some y := Option.some.inj e3
        have e5 : (σ[j]?).getD none = some v := Option.some.inj e2'
        refine ⟨j, e4, ?_, CS.nsf y (List.mem_of_getElem? e1')⟩
        cases hσ : σ[j]? with
        | none => rw [hσ] at e5; cases e5
        | some z => rw [hσ] at e5; have e6 : z = some v := e5; rw [e6]
  have visfree : ∀ y, scope.names.lookup y = some .free → X.env.kindOf y = some .cell ∨ X.env.kindOf y = some .free := fun y hy => CS.free (y, .free) (PySem.mem_of_lookup hy) rfl
  have I0 : Inv (X.comp (x :: ns) scope cl C s2 H2 fp) (pins ++ [(s2.heap.objs.size, LCg.lst [])]) (capσ caps σ none) H2 { s2 with heap := h₁, toks := s2.toks + ([] : List (Str × Value)).length } := by
    obtain ⟨m2, hn2, hl2⟩ := I2.loc
    refine ⟨ok', rfl, I2.bare, Un.kept old, ⟨_, hns₁, fun k y v e1 e2 e3 => ?_⟩, fun y c e => ?_, fresh2 C (by rw [hC]; exact Nat.le_succ _), fun y c e => I2.freeC y c (clsub y c e), fun p hp => ?_, I2.hok.kept old, ?_⟩
    · obtain ⟨j, q1, q2, q3⟩ := capget k y v e1 e2
      have vf := visfree y q3
      obtain ⟨u, ru, lk⟩ := hl2 j y v q1 q2 (vf.elim (fun z => .inr (.inl z)) fun z => .inr (.inr z))
      refine ⟨u, ru, .inr ⟨lookup_relabel_free q3, ?_⟩⟩
      obtain ⟨c, hcl'⟩ := clhas y (PySem.mem_of_lookup q3)
      refine ⟨c, hcl', ?_⟩
      rcases lk with ⟨k1, _⟩ | ⟨_, c', e', z⟩
      · rcases vf with vf | vf <;> (rw [k1] at vf; cases vf)
      · have q := clsub y c hcl'
        rw [e'] at q
        cases q
        exact z.keeps old
    · obtain ⟨v, z⟩ := I2.cell y c (clsub y c e)
      exact ⟨v, z.keeps old⟩
    · rcases List.mem_append.mp hp with hp | hp
      · obtain ⟨a1, a2, a3, a4, a5⟩ := I2.pin p (List.mem_append_left _ hp)
        refine ⟨old _ _ a1, a2, (below _ (Heap.lt_size a1)).1, fun z => ?_, a5⟩
        rcases List.mem_cons.mp (I2.stkSub _ z) with z | z
        · exact a3 z
        · exact a4 z
      · rcases List.mem_append.mp hp with hp | hp
        · obtain ⟨a1, a2, a3, a4, a5⟩ := I2.pin p (List.mem_append_right _ hp)
          refine ⟨old _ _ a1, a2, (below _ (Heap.lt_size a1)).1, fun z => ?_, a5⟩
          rcases List.mem_cons.mp (I2.stkSub _ z) with z | z
          · exact a3 z
          · exact a4 z
        · have e : p = (s2.heap.objs.size, LCg.lst []) := by simpa using hp
          subst e
          refine ⟨hacc, fresh2 _ (Nat.le_refl _), hDC, fun z => ?_, fun v z => by cases z⟩
          rcases List.mem_cons.mp (I2.stkSub _ z) with z | z
          · exact absurd I2.lt (by rw [← z]; exact Nat.lt_irrefl _)
          · exact I2.nofs (Nat.le_refl _) z
    · show (capσ caps σ none).length = (x :: ns).length
      have := congrArg List.length CS.at_
      simp only [List.length_map] at this
      simp [capσ, this]
  have loop : ∀ s₃ : Shared, s₃ = { s2 with heap := h₁, toks := s2.toks + ([] : List (Str × Value)).length } →
      codeAny (model X.prog X.w) X.A (.compLoop (.ListComp elt [⟨.Name x px, iter, ifs, 0⟩] scope pos) 0 (.ref it) (.ref s2.heap.objs.size) (compEnvC scope cl C X.env))
        (compPost (model X.prog X.w) X.A X.xe use Q (.ref s2.heap.objs.size) C) s₃ := by
    rintro s₃ rfl
    refine codeAny_compLoop_tests (fun n s' => ∃ i ys us H', Inv (X.comp (x :: ns) scope cl C s2 H2 fp) (pins ++ [(s2.heap.objs.size, LCg.lst us)]) (capσ caps σ none) H' s' ∧ Vals ys us ∧ tn i s'.heap ∧ (∀ b ∈ fp, H' b = none) ∧ W i n ys H') ?_ m0
      ⟨0, [], [], H2, I0, .nil, T.keep _ _ _ st2 (fun b _ o e => old b o e), fun b hb => (f2 b hb).1, w0⟩
    rintro n s3 ⟨i, ys, us, H3, I3, rv, st3, fr3, w3⟩
    obtain ⟨hle, hstep⟩ := turn i n ys H3 w3
    have pinlt : ∀ p ∈ X.pn ++ pins, p.1 < s2.heap.objs.size := fun p hp => Heap.lt_size (I2.pin p hp).1
    have stat : ∀ {H' : Hp}, (∀ b ∈ fp, H' b = none) → ∀ b ∈ fp, FpOk (X.comp (x :: ns) scope cl C s2 H2 fp) (pins ++ [(s2.heap.objs.size, LCg.lst us)]) H' b := fun hn b hb =>
      ⟨hn b hb, (below b (nfp b hb)).1, ok'.exfs b hb, .inl hb, fun y c e z => (f2 b hb).2.2.2.2.1 y c (clsub y c e) z, fun p hp => by
        rcases List.mem_append.mp hp with hp | hp
        · exact (f2 b hb).2.2.2.2.2 p (List.mem_append_left _ hp)
        · rcases List.mem_append.mp hp with hp | hp
          · exact (f2 b hb).2.2.2.2.2 p (List.mem_append_right _ hp)
          · have e : p = (s2.heap.objs.size, LCg.lst us) := by simpa using hp
            subst e
            exact Ne.symm (below b (nfp b hb)).2⟩
    have memD : ∀ (l : List (Addr × Obj)), (s2.heap.objs.size, LCg.lst us) ∈ (X.comp (x :: ns) scope cl C s2 H2 fp).pn ++ ((pins ++ [(s2.heap.objs.size, LCg.lst us)]) ++ l) := fun l =>
      List.mem_append_right _ (List.mem_append_left _ (List.mem_append_right _ List.mem_cons_self))
    rcases hstep with ⟨stop, r⟩ | ⟨go, Nx, hNx, step⟩
    · refine thn (T.done (X.comp (x :: ns) scope cl C s2 H2 fp) rfl rfl rfl hc i _ s3 _ H3 _ I3 (stat fr3) st3 stop) fun r' s4 ⟨hr, I4⟩ => ?_
      subst hr
      have pD := I4.pin (s2.heap.objs.size, LCg.lst us) (List.mem_append_right _ (List.mem_append_right _ List.mem_cons_self))
      have hDn : H3 s2.heap.objs.size = none := pD.2.1
      have hCn : H3 C = none := I4.free
      have b4 : Un (frs X.stack) fp H2 H3 s2.heap s4.heap := I4.base
      have u4 : Un (frs X.stack) fp H2 (upd H3 s2.heap.objs.size (.lst ys)) s2.heap s4.heap :=
        ⟨b4.keep, b4.slot, fun b o e n hx => by rw [upd_ne (below b (Heap.lt_size e)).2]; exact b4.free b o e n hx, b4.there,
          fun b xs q => by rw [upd_ne (ne_of_none (b4.tups b xs q) hDn)]; exact b4.tups b xs q, fun b o u q => by rw [upd_ne (ne_of_none (b4.frzs b o u q) hDn)]; exact b4.frzs b o u q,
          fun b ps q => by
            obtain ⟨m1, e1⟩ := b4.tbls b ps q
            exact ⟨m1, by rw [upd_ne (ne_of_none e1 hDn)]; exact e1⟩⟩
      have k4 : HOk X.prog X.w (upd H3 s2.heap.objs.size (.lst ys)) s4.heap := fun b u e => by
        by_cases hb : b = s2.heap.objs.size
        · subst hb
          rw [upd_same] at e
          cases e
          exact ⟨hle, us, _, rv, pD.1⟩
        · rw [upd_ne hb] at e
          exact (I4.hok b u e).stay (fun c v _ q => q) (fun c q => by rw [upd_ne (ne_of_none q hDn)]; exact q) fun c xs q => by rw [upd_ne (ne_of_none q hDn)]; exact q
      have J4 : Inv X pins σ (upd H3 s2.heap.objs.size (.lst ys)) s4 := I2.call' (ch := fp) I4.os u4 k4 I4.bare fun b hb => ⟨(f2 b hb).2.2.2.1, (f2 b hb).2.1, (f2 b hb).2.2.2.2.1, (f2 b hb).2.2.2.2.2⟩
      obtain ⟨mC, hnC, _⟩ := I4.loc
      exact hend _ C s4 H3 ys J4 hDn r ⟨mC, hnC⟩ (by rw [upd_ne (Ne.symm hDC)]; exact hCn) (Ne.symm (below _ I2.lt).1) (by rw [hC]; exact Nat.le_succ_of_le I2.sz) (fun y c e => (below c (ltC y c e)).1) fun p hp => (below _ (pinlt p hp)).1
    · refine thn (T.item (X.comp (x :: ns) scope cl C s2 H2 fp) rfl rfl rfl hc i _ s3 _ H3 _ I3 (stat fr3) st3 go) fun r' s4 ⟨u, hr, h4⟩ => ?_
      subst hr
      refine wpAny_unpure h4 fun ⟨v, H5, I5, r5, y5, st5, fr5⟩ => ?_
      have I5' := I5.pinned (stat fr5) (T.obj _ _ st5)
      refine wpAny_assign_Name (store_ok (X := X.comp (x :: ns) scope cl C s2 H2 fp) (i := 0) I5' CS.nd rfl (.inl (lookup_relabel_local CS.var)) r5 (fun s6 I6 => ?_) (.inr (lookup_relabel_local CS.var)))
      have I6' : Inv (X.comp (x :: ns) scope cl C s2 H2 fp) ((pins ++ [(s2.heap.objs.size, LCg.lst us)]) ++ pinsAt fp s4.heap) (capσ caps σ (some v)) H5 s6 := I6
      refine wpAny_mono (ht cl C s2 H2 fp _ s6 _ H5 _ I6' (step v H5 y5)) (fun b s7 ⟨H7, I7, q7⟩ => ?_) (fun _ _ e => e.elim)
      have weak : ∀ {H' : Hp} {s' : Shared} {pl : List (Addr × Obj)}, Inv (X.comp (x :: ns) scope cl C s2 H2 fp) pl (capσ caps σ (some v)) H' s' → Inv (X.comp (x :: ns) scope cl C s2 H2 fp) pl (capσ caps σ none) H' s' := fun {H' s' pl} J' =>
        J'.weak rfl fun k z e => by
          cases k with
          | zero => cases e
          | succ k => exact e
      have keepT : ∀ {H' : Hp} {s' : Shared}, Inv (X.comp (x :: ns) scope cl C s2 H2 fp) ((pins ++ [(s2.heap.objs.size, LCg.lst us)]) ++ pinsAt fp s4.heap) (capσ caps σ (some v)) H' s' → tn (i + 1) s'.heap ∧ ∀ b ∈ fp, H' b = none := fun {H' s'} J' => by
        refine ⟨T.keep _ _ _ st5 fun b hb o e => (J'.pin (b, o) (List.mem_append_right _ (List.mem_append_right _ (mem_pinsAt hb e)))).1, fun b hb => ?_⟩
        obtain ⟨o, e, d⟩ := T.obj _ _ st5 b hb
        exact (J'.pin (b, o) (List.mem_append_right _ (List.mem_append_right _ (mem_pinsAt hb e)))).2.1
      cases b with
      | false =>
        rw [if_neg Bool.false_ne_true] at q7 ⊢
        obtain ⟨m', hm, w7⟩ := hNx _ _ q7
        exact ⟨m', hm, i + 1, ys, us, H7, weak I7.unpinned, rv, (keepT I7).1, (keepT I7).2, w7⟩
      | true =>
        rw [if_pos rfl] at q7 ⊢
        refine wpAny_mono (he cl C s2 H2 fp _ s7 _ H7 _ I7 q7) (fun yv s8 ⟨y, H8, I8, ry, n8⟩ => ?_) (fun _ _ e => e.elim)
        obtain ⟨m', hm, w8⟩ := hNx _ _ n8
        have pD := I8.pin (s2.heap.objs.size, LCg.lst us) (memD _)
        have hul : us.length = ys.length := rv.length.symm
        refine append_at (hsz := by show us.toArray.size ≤ sizeLine; rw [List.size_toArray, hul]; exact hle) pD.1 fun h9 hs9 hD9 => ?_
        have I8p : Inv (X.comp (x :: ns) scope cl C s2 H2 fp) pins (capσ caps σ none) H8 s8 := weak I8.unpinned.unpinned
        have I9 : Inv (X.comp (x :: ns) scope cl C s2 H2 fp) pins (capσ caps σ none) H8 { s8 with heap := h9 } := I8p.turned (t' := s8.toks) (it := s2.heap.objs.size) (fun b o hb e => (hs9.2 b hb).trans e) pD.2.1 hDC (.inr (Nat.le_refl _)) (fun y c e z => Nat.ne_of_lt (ltC y c (clsub y c e)) z) fun p hp => Nat.ne_of_lt (pinlt p hp)
        have I9' : Inv (X.comp (x :: ns) scope cl C s2 H2 fp) (pins ++ [(s2.heap.objs.size, LCg.lst (us ++ [yv]))]) (capσ caps σ none) H8 { s8 with heap := h9 } := I9.pins_of fun p hp => by
          rcases List.mem_append.mp hp with hp | hp
          · exact I9.pin p (List.mem_append_right _ hp)
          · have e : p = (s2.heap.objs.size, LCg.lst (us ++ [yv])) := by simpa using hp
            subst e
            exact ⟨hD9.trans (congrArg some (LCg.lst_snoc us yv)), pD.2.1, hDC, pD.2.2.2.1, fun v z => by cases z⟩
        refine ⟨m', hm, i + 1, ys ++ [y], us ++ [yv], H8, I9', rv.append (.cons ry .nil), ?_, (keepT I8).2, w8⟩
        exact T.keep _ _ _ (keepT I8).1 fun b hb o e => (hs9.2 b (below b (nfp b hb)).2).trans e
  exact codeAny_compStart_list (loop _ rfl) (T.self X.A 0 _ _ _ (T.keep _ _ _ st2 (fun b _ o e => old b o e)) (loop _ rfl))
theorem comp_tup {K : PySem.W.Frag} {a : Addr} {xs : List V} {caps : List Nat} {tt : TT} {te : TE} {σ : St} {H : Hp} {R : List V → Hp → Prop} (Pv : Nat → List V → Hp → Prop) (h0 : Pv 0 [] H) (hl : ∀ i ys H, i ≤ xs.length → Pv i ys H → SqT K H a xs ∧ ys.length ≤ sizeLine)
    (hs : ∀ i x ys H, xs[i]? = some x → Pv i ys H → tt (capσ caps σ (some x)) H fun b H2 => if b = true then te (capσ caps σ (some x)) H2 fun y H3 => Pv (i + 1) (ys ++ [y]) H3 else Pv (i + 1) ys H2) (hd : ∀ ys H, Pv xs.length ys H → R ys H) :
    ∃ W : Nat → Nat → List V → Hp → Prop, (∃ m, W 0 m [] H) ∧ ∀ i m ys H, W i m ys H → ys.length ≤ sizeLine ∧ (((Itt K a).stop i H ∧ R ys H) ∨ ((Itt K a).go i H ∧ ∃ N : List V → Hp → Prop, (∀ ys' H', N ys' H' → ∃ m', m' < m ∧ W (i + 1) m' ys' H') ∧ ∀ v H', (Itt K a).yld i H v H' →
      tt (capσ caps σ (some v)) H' fun b H2 => if b = true then te (capσ caps σ (some v)) H2 fun y H3 => N (ys ++ [y]) H3 else N ys H2)) := by
  refine ⟨fun i m ys H => m = xs.length - i ∧ i ≤ xs.length ∧ Pv i ys H, ⟨xs.length, by simp, Nat.zero_le _, h0⟩, ?_⟩
  rintro i m ys H ⟨rfl, hi, p⟩
  obtain ⟨q, hz⟩ := hl i ys H hi p
  refine ⟨hz, ?_⟩
  by_cases hlt : i < xs.length
  · refine .inr ⟨⟨xs, xs[i], q, by simp [hlt]⟩, Pv (i + 1), fun ys' H' p' => ⟨xs.length - (i + 1), by omega, rfl, hlt, p'⟩, fun x H' y => ?_⟩
    obtain ⟨e, y⟩ := y
    subst e
    exact hs i x ys _ (y xs q) p
  · have e : i = xs.length := by omega
    subst e
    exact .inl ⟨⟨xs, q, Nat.le_refl _⟩, hd ys H p⟩
theorem comp_list {K : PySem.W.Frag} {a : Addr} {xs : List V} {caps : List Nat} {tt : TT} {te : TE} {σ : St} {H : Hp} {R : List V → Hp → Prop} (Pv : Nat → List V → Hp → Prop) (h0 : Pv 0 [] H) (hl : ∀ i ys H, i ≤ xs.length → Pv i ys H → SqL K H a xs ∧ ys.length ≤ sizeLine)
    (hs : ∀ i x ys H, xs[i]? = some x → Pv i ys H → tt (capσ caps σ (some x)) H fun b H2 => if b = true then te (capσ caps σ (some x)) H2 fun y H3 => Pv (i + 1) (ys ++ [y]) H3 else Pv (i + 1) ys H2) (hd : ∀ ys H, Pv xs.length ys H → R ys H) :
    ∃ W : Nat → Nat → List V → Hp → Prop, (∃ m, W 0 m [] H) ∧ ∀ i m ys H, W i m ys H → ys.length ≤ sizeLine ∧ (((Itl K a).stop i H ∧ R ys H) ∨ ((Itl K a).go i H ∧ ∃ N : List V → Hp → Prop, (∀ ys' H', N ys' H' → ∃ m', m' < m ∧ W (i + 1) m' ys' H') ∧ ∀ v H', (Itl K a).yld i H v H' →
      tt (capσ caps σ (some v)) H' fun b H2 => if b = true then te (capσ caps σ (some v)) H2 fun y H3 => N (ys ++ [y]) H3 else N ys H2)) := by
  refine ⟨fun i m ys H => m = xs.length - i ∧ i ≤ xs.length ∧ Pv i ys H, ⟨xs.length, by simp, Nat.zero_le _, h0⟩, ?_⟩
  rintro i m ys H ⟨rfl, hi, p⟩
  obtain ⟨q, hz⟩ := hl i ys H hi p
  refine ⟨hz, ?_⟩
  by_cases hlt : i < xs.length
  · refine .inr ⟨⟨xs, xs[i], q, by simp [hlt]⟩, Pv (i + 1), fun ys' H' p' => ⟨xs.length - (i + 1), by omega, rfl, hlt, p'⟩, fun x H' y => ?_⟩
    obtain ⟨e, y⟩ := y
    subst e
    exact hs i x ys _ (y xs q) p
  · have e : i = xs.length := by omega
    subst e
    exact .inl ⟨⟨xs, q, Nat.le_refl _⟩, hd ys H p⟩
theorem comp_range {lo : Int} {n : Nat} {caps : List Nat} {tt : TT} {te : TE} {σ : St} {H : Hp} {R : List V → Hp → Prop} (Pv : Nat → List V → Hp → Prop) (h0 : Pv 0 [] H) (hl : ∀ i ys H, i ≤ n → Pv i ys H → ys.length ≤ sizeLine)
    (hs : ∀ i ys H, i < n → Pv i ys H → tt (capσ caps σ (some (.int (lo + i)))) H fun b H2 => if b = true then te (capσ caps σ (some (.int (lo + i)))) H2 fun y H3 => Pv (i + 1) (ys ++ [y]) H3 else Pv (i + 1) ys H2) (hd : ∀ ys H, Pv n ys H → R ys H) :
    ∃ W : Nat → Nat → List V → Hp → Prop, (∃ m, W 0 m [] H) ∧ ∀ i m ys H, W i m ys H → ys.length ≤ sizeLine ∧ (((Itr lo n).stop i H ∧ R ys H) ∨ ((Itr lo n).go i H ∧ ∃ N : List V → Hp → Prop, (∀ ys' H', N ys' H' → ∃ m', m' < m ∧ W (i + 1) m' ys' H') ∧ ∀ v H', (Itr lo n).yld i H v H' →
      tt (capσ caps σ (some v)) H' fun b H2 => if b = true then te (capσ caps σ (some v)) H2 fun y H3 => N (ys ++ [y]) H3 else N ys H2)) := by
  refine ⟨fun i m ys H => m = n - i ∧ i ≤ n ∧ Pv i ys H, ⟨n, by simp, Nat.zero_le _, h0⟩, ?_⟩
  rintro i m ys H ⟨rfl, hi, p⟩
  refine ⟨hl i ys H hi p, ?_⟩
  by_cases hlt : i < n
  · refine .inr ⟨hlt, Pv (i + 1), fun ys' H' p' => ⟨n - (i + 1), by omega, rfl, hlt, p'⟩, fun x H' y => ?_⟩
    obtain ⟨e, y⟩ := y
    subst e y
    exact hs i ys _ hlt p
  · have e : i = n := by omega
    subst e
    exact .inl ⟨Nat.le_refl _, hd ys H p⟩
theorem pe_comp {x : Str} {px : Pos} {iter elt : Expr} {ifs : List Expr} {scope sc : Scope} {N : List Str} {pos : Pos} {wi : TI} {tt : TT} {te : TE} {caps : List Nat} {ns : List Str}
    (CS : CompScope N sc scope x caps ns) (hN' : X.N = N) (hsc : X.env.scope = sc) (hc : X.calm = true) (hi : PI X (.Name x px) iter wi)
    (ht : ∀ cl C s H fp, PTs (X.comp (x :: ns) scope cl C s H fp) ifs tt) (he : ∀ cl C s H fp, PE (X.comp (x :: ns) scope cl C s H fp) elt te)
    (hs : ∀ v, foldedSetIterable iter X.env v = pure v := by intro _; rfl) :
    PE X (.ListComp elt [⟨.Name x px, iter, ifs, 0⟩] scope pos) (tComp wi caps tt te) := by
  intro pins s σ H Q I h
  subst hN'; subst hsc
  rw [eval_ListComp]
  refine comp_core CS hc hi ht he hs I h ?_
  rintro D C s' H' ys I' hD r ⟨m, hn⟩ c1 c2 c3 c4 c5
  exact ⟨m, hn, fun h' hs' => ⟨.ref D, _, I'.turned (t' := s'.toks) (fun b o hb e => (hs'.2 b hb).trans e) c1 c2 (.inr c3) c4 c5, rfl, r D hD⟩⟩
theorem ps_setComp {i : Nat} {x y : Str} {px py : Pos} {iter elt : Expr} {ifs : List Expr} {scope sc : Scope} {N : List Str} {pos spos : Pos} {wi : TI} {tt : TT} {te : TE} {caps : List Nat} {ns : List Str} (hN : X.N.Nodup) (hi : X.N[i]? = some y)
    (hy : X.env.scope.names.lookup y = some .local) (CS : CompScope N sc scope x caps ns) (hN' : X.N = N) (hsc : X.env.scope = sc) (hc : X.calm = true) (hit : PI X (.Name x px) iter wi)
    (ht : ∀ cl C s H fp, PTs (X.comp (x :: ns) scope cl C s H fp) ifs tt) (he : ∀ cl C s H fp, PE (X.comp (x :: ns) scope cl C s H fp) elt te)
    (hsw : swapsWith (.ListComp elt [⟨.Name x px, iter, ifs, 0⟩] scope pos) (some (.Name y py)) spos.line X.env = pure true := by rfl)
    (hs : ∀ v, foldedSetIterable iter X.env v = pure v := by intro _; rfl) :
    PS X (.Assign [.Name y py] (.ListComp elt [⟨.Name x px, iter, ifs, 0⟩] scope pos) spos) (tAsg (tComp wi caps tt te) (gName i)) := by
  intro pins s σ H D I h
  subst hN'; subst hsc
  rw [exec_Assign_Name_used _ _ _ _ hsw]
  refine wpAny_bind (wpAny_standAt (wpAny_bind ?_))
  show wpAny _ X.A (do let _ ← comprehension (.ListComp elt [⟨.Name x px, iter, ifs, 0⟩] scope pos) scope X.env _ (newList []) false (eval iter X.env) (some (assign (.Name y py) X.env))) _ _ s
  refine wpAny_bind (wpAny_mono (comp_core (use := some (assign (.Name y py) X.env)) (Q := fun _ s' => SP X pins D .next s') CS hc hit ht he hs I h ?_) (fun _ s' hq => wpAny_pure (wpAny_pure hq)) fun _ _ e => e)
  rintro D' C s' H' ys I' hD r ⟨m, hn⟩ c1 c2 c3 c4 c5
  show wpAny _ _ (assign (.Name y py) X.env (.ref D')) _ _ s'
  refine wpAny_assign_Name (store_ok2 (v := .ref D') I' hN hi (.inl hy) rfl (fun s'' I'' ⟨a, sb, ha⟩ => ?_) (.inr hy))
  have hCa : C ≠ a := by
    rcases ha with e | e
    · rw [e]; exact c2
    · exact Ne.symm (c4 y a e)
  exact ⟨m, hn.sameBut sb hCa, fun h' hs' => ⟨_, _, I''.turned (t' := s''.toks) (fun b o hb e => (hs'.2 b hb).trans e) c1 c2 (.inr c3) c4 c5, r D' hD⟩⟩
end
end L2
namespace L2
open PySem PySem.Spec PyProof.Rows
theorem bt_len : bootBuiltins "len" = some (.builtin "len") := by decide +kernel
theorem bt_isinstance : bootBuiltins "isinstance" = some (.builtin "isinstance") := by decide +kernel
theorem bt_all : bootBuiltins "all" = some (.builtin "all") := by decide +kernel
theorem bt_sorted : bootBuiltins "sorted" = some (.builtin "sorted") := by decide +kernel
theorem bt_list : bootBuiltins "list" = some (.type "list") := by decide +kernel
theorem bt_tuple : bootBuiltins "tuple" = some (.type "tuple") := by decide +kernel
theorem bt_int : bootBuiltins "int" = some (.type "int") := by decide +kernel
theorem bt_bool : bootBuiltins "bool" = some (.type "bool") := by decide +kernel
theorem bt_str : bootBuiltins "str" = some (.type "str") := by decide +kernel
section
variable {X : Cx}
theorem op_mul_str : OpR X (binaryOp .Mult) (fun x y H Q => ∃ i n, x = .str i ∧ y = .int n ∧ 0 ≤ n ∧ n ≤ 16777216 ∧ i.length * n.toNat ≤ 16777216 ∧ Q (.str (Txt.mul i n)) H) := by
  intro pins s σ H x y v u Q I rx ry h
  obtain ⟨i, n, rfl, rfl, h0, h1, h2, q⟩ := h
  obtain ⟨t, rfl⟩ := rx
  obtain ⟨t', rfl⟩ := ry
  exact SB.mul (mulOk_of i.length n.toNat (Nat.le_refl _) (by omega) (by omega) (by omega) h2) fun t'' k => ⟨.str _, H, I.tok _, ⟨_, rfl⟩, q⟩
def plainV : V → Bool
  | .byt _ => false
  | .flt _ => false
  | _ => true
theorem eqAt_same {A : Around} {s : Shared} {x : V} {u v : Value} (r : RelV x u) (r' : RelV x v) (hx : plainV x = true) : SeqAt.EqAt A s u v true := by
  cases x with
  | non => cases r; cases r'; exact SeqAt.EqAt.same _
  | bl b => cases r; cases r'; exact SeqAt.EqAt.same _
  | int i =>
    obtain ⟨t, rfl⟩ := r; obtain ⟨t', rfl⟩ := r'
    have := SeqAt.EqAt.int_int (A := A) (s := s) i t i t'
    simpa using this
  | str i =>
    obtain ⟨t, rfl⟩ := r; obtain ⟨t', rfl⟩ := r'
    have := SeqAt.EqAt.str_str (A := A) (s := s) i t i t'
    simpa using this
  | ref a => cases r; cases r'; exact SeqAt.EqAt.same _
  | ty n => cases r; cases r'; exact SeqAt.EqAt.same _
  | byt b => cases hx
  | flt b => cases hx
theorem vals_same {A : Around} {s : Shared} {xs : List V} {us vs : List Value} (r : Vals xs us) (r' : Vals xs vs) (hx : xs.all plainV = true) (j : Nat) (h1 : j < us.toArray.size) (h2 : j < vs.toArray.size) : SeqAt.EqAt A s us.toArray[j] vs.toArray[j] true := by
  have hj : j < xs.length := by rw [r.length]; simpa using h1
  obtain ⟨u, hu, ru⟩ := r.get (i := j) (x := xs[j]) (by simp [hj])
  obtain ⟨v, hv, rv⟩ := r'.get (i := j) (x := xs[j]) (by simp [hj])
  have e1 : us.toArray[j] = u := by
    have : us[j]? = some us.toArray[j] := by simp
    rw [hu] at this; exact (Option.some.inj this).symm
  have e2 : vs.toArray[j] = v := by
    have : vs[j]? = some vs.toArray[j] := by simp
    rw [hv] at this; exact (Option.some.inj this).symm
  rw [e1, e2]
  have hp := List.all_eq_true.mp hx xs[j] (List.getElem_mem hj)
  exact eqAt_same ru rv hp
def rEqL (K : PySem.W.Frag) (k : Bool) : R2 := fun x y H Q => ∃ a b xs, x = .ref a ∧ y = .ref b ∧ SqL K H a xs ∧ SqL K H b xs ∧ xs.all plainV = true ∧ Q (.bl k) H
theorem op_eqL (hu : X.A.units < cLine) : OpR X (compareOp .Eq) (rEqL X.K true) := by
  intro pins s σ H x y v u Q I rx ry h
  obtain ⟨a, b, xs, rfl, rfl, ha, hb, hp, q⟩ := h
  cases rx; cases ry
  obtain ⟨its, r, pl, _⟩ := I.list ha
  obtain ⟨its2, r2, pl2, _⟩ := I.list hb
  have hl : its.length = its2.length := by rw [← r.length, ← r2.length]
  refine SeqAt.eq_listAt (e := fun _ => true) pl.isList pl2.isList (by simpa using hl) hu (fun j h1 h2 => vals_same r r2 hp j h1 h2) ⟨.bl true, H, I, ?_, q⟩
  have : ((List.range its.toArray.size).all fun _ => true) = true := by simp
  rw [this]; rfl
theorem op_neL (hu : X.A.units < cLine) : OpR X (compareOp .NotEq) (rEqL X.K false) := by
  intro pins s σ H x y v u Q I rx ry h
  obtain ⟨a, b, xs, rfl, rfl, ha, hb, hp, q⟩ := h
  cases rx; cases ry
  obtain ⟨its, r, pl, _⟩ := I.list ha
  obtain ⟨its2, r2, pl2, _⟩ := I.list hb
  have hl : its.length = its2.length := by rw [← r.length, ← r2.length]
  refine SeqAt.RcNeAt.lists (e := fun _ => true) pl.isList pl2.isList (by simpa using hl) hu (fun j h1 h2 => vals_same r r2 hp j h1 h2) X.prog X.w X.xe _ ⟨.bl false, H, I, ?_, q⟩
  have : ((List.range its.toArray.size).all fun _ => true) = true := by simp
  rw [this]; rfl
theorem call_isi : CallR X (.builtin "isinstance") (fun xs H Q => ∃ x c t b, xs = [x, .ty c] ∧ TyOf X.K H x t ∧ PySem.W.kitOne X.K t (.type c) = some b ∧ Q (.bl b) H) := by
  intro pins s σ H xs us Q I r h
  obtain ⟨x, c, t, b, rfl, ty, hk, q⟩ := h
  obtain ⟨u, v, rfl, ru, rv⟩ := vals2 r
  cases rv
  exact isinst_ok I ru ty hk fun tk => ⟨.bl b, H, I.tok _, rfl, q⟩
structure TopD (w : World) (K : PySem.W.Frag) (a : Addr) (kvs : List (Str × V)) : Prop where
  ex : ∃ (es : Array DictEntry) (n : Nat), K.lookup a = some ⟨.type "dict", none, .dict es n, #[]⟩ ∧ PySem.W.KeysLit w.params es.toList ∧ Paired (fun (p : Str × V) (e : DictEntry) => (∃ t, e.key = .str p.1 t) ∧ RelV p.2 e.val) kvs es.toList
  lo : (a == sysModules) = false
theorem find_paired {x : Str} : ∀ {kvs : List (Str × V)} {es : List DictEntry}, Paired (fun (p : Str × V) (e : DictEntry) => (∃ t, e.key = .str p.1 t) ∧ RelV p.2 e.val) kvs es →
    RelO (kvs.lookup x) ((es.find? fun e => Value.isStrOf x e.key).map (·.val))
  | _, _, .nil => trivial
  | (k, v) :: kvs, e :: es, .cons ⟨⟨t, hk⟩, rv⟩ r => by
    have hk' : e.key = .str k t := hk
    rw [List.lookup_cons, List.find?_cons, hk']
    by_cases hx : x = k
    · subst hx
      have h1 : Value.isStrOf x (.str x t) = true := by simp [Value.isStrOf]
      rw [h1, beq_self_eq_true]
      exact rv
    · have h1 : Value.isStrOf x (.str k t) = false := by
        cases h : Value.isStrOf x (.str k t) with
        | false => rfl
        | true =>
          obtain ⟨t', e'⟩ := Value.isStrOf_shape (x := x) (v := .str k t) h
          injection e' with e1 _
          exact absurd e1.symm hx
      have h2 : (x == k) = false := beq_eq_false_iff_ne.mpr hx
      rw [h1, h2]
      exact find_paired r
theorem TopD.map {w : World} {K : PySem.W.Frag} {a : Addr} {kvs : List (Str × V)} (T : TopD w K a kvs) {prog : Program} {h : Heap} (KX : K.In h) :
    ∃ f : Str → Option Value, h.MapOf (strKind prog w) a f ∧ ∀ x, RelO (kvs.lookup x) (f x) := by
  obtain ⟨es, n, hl, hk, hp⟩ := T.ex
  refine ⟨fun k => findBy Value.isStrOf es k, PySem.W.mapOf_K KX hl hk, fun x => ?_⟩
  have q := find_paired (x := x) hp
  show RelO (List.lookup x kvs) ((es.find? fun e => Value.isStrOf x e.key).map (·.val))
  rw [← Array.find?_toList]
  exact q
def rIxTop (w : World) (K : PySem.W.Frag) : R2 := fun x y H Q => ∃ a k kvs v, x = .ref a ∧ y = .str k ∧ TopD w K a kvs ∧ kvs.lookup k = some v ∧ Q v H
theorem ix_top : IxR X (rIxTop X.w X.K) := by
  intro value slice pins s σ H x y v u Q I rx ry h hs
  obtain ⟨a, k, kvs, z, rfl, rfl, T, hz, q⟩ := h
  cases rx
  obtain ⟨t, rfl⟩ := ry
  obtain ⟨f, hm, hf⟩ := T.map (prog := X.prog) I.kIn
  have hr := hf k
  rw [hz] at hr
  obtain ⟨w', e, r⟩ := hr.some_of
  exact tail_any hm.typeIs slot_dict_getitem.lookup (wpAny_getItem_of (strKind_is X.prog X.w k t) hm e ⟨z, H, I.tok _, r, q⟩) hs
theorem op_in_top : OpR X (compareOp .In) (fun x y H Q => ∃ k a kvs, x = .str k ∧ y = .ref a ∧ TopD X.w X.K a kvs ∧ Q (.bl (kvs.lookup k).isSome) H) := by
  intro pins s σ H x y v u Q I rx ry h
  obtain ⟨k, a, kvs, rfl, rfl, T, q⟩ := h
  cases ry
  obtain ⟨t, rfl⟩ := rx
  obtain ⟨f, hm, hf⟩ := T.map (prog := X.prog) I.kIn
  have hr := hf k
  have e : (f k).isSome = (kvs.lookup k).isSome := by
    cases h1 : kvs.lookup k with
    | none => rw [h1] at hr; rw [hr.none_of]; rfl
    | some z => rw [h1] at hr; obtain ⟨w', e, _⟩ := hr.some_of; rw [e]; rfl
  exact wpAny_in_of (strKind_is X.prog X.w k t) T.lo hm ⟨.bl _, H, I.tok _, by rw [e]; rfl, q⟩
theorem uAdd : OpR X (binaryOp .Add) (fun x y H Q => rI0 (fun i j => .int (i + j)) x y H Q ∨ (∃ i j, x = .str i ∧ y = .str j ∧ i.length + j.length ≤ sizeLine ∧ Q (.str (i ++ j)) H) ∨ rCat x y H Q) := op_add.or (op_add_str.or op_cat)
theorem uMul : OpR X (binaryOp .Mult) (fun x y H Q => rI CMul (fun i j => .int (i * j)) x y H Q ∨ (∃ i n, x = .str i ∧ y = .int n ∧ 0 ≤ n ∧ n ≤ 16777216 ∧ i.length * n.toNat ≤ 16777216 ∧ Q (.str (Txt.mul i n)) H) ∨ rRep x y H Q) := op_mul.or (op_mul_str.or op_rep)
theorem uEq (hu : X.A.units < cLine) : OpR X (compareOp .Eq) (fun x y H Q => rEq x y H Q ∨ rEqL X.K true x y H Q) := op_eq.or (op_eqL hu)
theorem uNe (hu : X.A.units < cLine) : OpR X (compareOp .NotEq) (fun x y H Q => rNe x y H Q ∨ rEqL X.K false x y H Q) := op_ne.or (op_neL hu)
theorem uIn : OpR X (compareOp .In) (fun x y H Q => (∃ i j, x = .str i ∧ y = .str j ∧ Q (.bl (!(Builtin.Str.occurrences j i 0 j.length 1).isEmpty)) H) ∨ rIn X.K false x y H Q ∨ (∃ k a kvs, x = .str k ∧ y = .ref a ∧ TopD X.w X.K a kvs ∧ Q (.bl (kvs.lookup k).isSome) H)) := op_in_str.or (op_in_seq.or op_in_top)
theorem ix_any : IxR X (fun x y H Q => rIxL X.K x y H Q ∨ rIxT X.K x y H Q ∨ rIxS x y H Q ∨ rIxTop X.w X.K x y H Q) := ix_list.or (ix_tup.or (ix_str.or ix_top))
theorem sl_any : SlR X (fun x lo hi H Q => rSlL X.K x lo hi H Q ∨ rSlT X.K x lo hi H Q) := sl_list.or sl_tup
def tCut (t : TS) : TS := fun D σ H => ∃ R : St → Hp → Prop, t { D with nx := R } σ H ∧ ∀ σ' H', R σ' H' → D.nx σ' H'
theorem ps_cut {st : Stmt} {t : TS} (h : PS X st t) : PS X st (tCut t) := fun pins s σ H D I ⟨R, q, hR⟩ => thn (h pins s σ H _ I q) fun f s' hs => by
  cases f with
  | next => obtain ⟨σ', H', I', r⟩ := hs; exact ⟨σ', H', I', hR σ' H' r⟩
  | brk => exact hs
  | cont => exact hs
  | ret v => exact hs
end
end L2
namespace L2
open PySem PySem.Spec PyProof.Rows
section
variable {X : Cx} {K : PySem.W.Frag} {w : World}
theorem kEq (hu : X.A.units < cLine) (hK : X.K = K := by rfl) : OpR X (compareOp .Eq) (fun x y H Q => rEq x y H Q ∨ rEqL K true x y H Q) := by subst hK; exact uEq hu
theorem kNe (hu : X.A.units < cLine) (hK : X.K = K := by rfl) : OpR X (compareOp .NotEq) (fun x y H Q => rNe x y H Q ∨ rEqL K false x y H Q) := by subst hK; exact uNe hu
theorem kIn (hK : X.K = K := by rfl) (hw : X.w = w := by rfl) : OpR X (compareOp .In) (fun x y H Q => (∃ i j, x = .str i ∧ y = .str j ∧ Q (.bl (!(Builtin.Str.occurrences j i 0 j.length 1).isEmpty)) H) ∨ rIn K false x y H Q ∨ (∃ k a kvs, x = .str k ∧ y = .ref a ∧ TopD w K a kvs ∧ Q (.bl (kvs.lookup k).isSome) H)) := by
  subst hK; subst hw; exact uIn
theorem kIx (hK : X.K = K := by rfl) (hw : X.w = w := by rfl) : IxR X (fun x y H Q => rIxL K x y H Q ∨ rIxT K x y H Q ∨ rIxS x y H Q ∨ rIxTop w K x y H Q) := by subst hK; subst hw; exact ix_any
theorem kSl (hK : X.K = K := by rfl) : SlR X (fun x lo hi H Q => rSlL K x lo hi H Q ∨ rSlT K x lo hi H Q) := by subst hK; exact sl_any
theorem k_len (hK : X.K = K := by rfl) : CallR X (.builtin "len") (fun xs H Q => ∃ x n, xs = [x] ∧ LenV K x H n ∧ Q (.int n) H) := by subst hK; exact call_len
theorem k_list (hK : X.K = K := by rfl) : CallR X (.type "list") (fun xs H Q => ∃ p ys, xs = [.ref p] ∧ (SqL K H p ys ∨ SqT K H p ys) ∧ ∀ l, H l = none → Q (.ref l) (upd H l (.lst ys))) := by subst hK; exact call_list_of
theorem k_tuple (hK : X.K = K := by rfl) : CallR X (.type "tuple") (fun xs H Q => ∃ p ys, xs = [.ref p] ∧ ((SqL K H p ys ∧ ∀ l, H l = none → Q (.ref l) (upd H l (.tup ys))) ∨ SqT K H p ys ∧ Q (.ref p) H)) := by subst hK; exact call_tuple_of
theorem k_isi (hK : X.K = K := by rfl) : CallR X (.builtin "isinstance") (fun xs H Q => ∃ x c t b, xs = [x, .ty c] ∧ TyOf K H x t ∧ PySem.W.kitOne K t (.type c) = some b ∧ Q (.bl b) H) := by subst hK; exact call_isi
variable {o e st l c : Expr} {es : List Expr} {to te ts tl : TE} {t : TA} {name : Str} {apos cpos pos p2 : Pos} {T id : String} {r : V → List V → Hp → VK → Prop} {tg : Expr}
theorem k_bm0 (pa : PlainAttrs T) (slot : Slot T name id) (hty : typeOf (.builtin id) = pure (.type "method_descriptor")) (hm : MtR X id r) (ho : PE X o to) (hK : X.K = K := by rfl)
    (hbase : attributeBase o name X.env (eval o X.env) = eval o X.env := by rfl) (hline : (apos.endLine == cpos.line) = true := by rfl) : PE X (.Call (.Attribute o name apos) [] [] cpos) (tBM0 K T r to) := by
  subst hK; exact pe_bm0 pa slot hty hm ho hbase hline
theorem k_bm (pa : PlainAttrs T) (slot : Slot T name id) (hty : typeOf (.builtin id) = pure (.type "method_descriptor")) (hm : MtR X id r) (ho : PE X o to) (ha : PA X (e :: es) t) (hK : X.K = K := by rfl)
    (hbase : attributeBase o name X.env (eval o X.env) = eval o X.env := by rfl)
    (hfew : ((backTo cpos (starEach (e :: es) X.env)).all (fun x => !x.1) && (backToKw cpos (keywordEach [] X.env)).all (fun x => x.1.isSome)
      && decide ((e :: es).length + ([] : List Keyword).length + (if ([] : List Keyword).isEmpty then 0 else 1) < 30)) = true := by rfl)
    (hline : (apos.endLine == cpos.line) = true := by rfl) (hs : starEach (e :: es) X.env = (false, eval e X.env) :: starEach es X.env := by rfl) (hplain : (backTo cpos (starEach es X.env)).any (·.1) = false := by rfl) :
    PE X (.Call (.Attribute o name apos) (e :: es) [] cpos) (tBM K T r to t) := by
  subst hK; exact pe_bm pa slot hty hm ho ha hbase hfew hline hs hplain
theorem k_ilist (hl : PE X l tl) (hK : X.K = K := by rfl) : PI X tg l (iList K tl) := by subst hK; exact pi_list hl
def tTru (K : PySem.W.Frag) (ta : TE) : TT := fun σ H Q => ta σ H fun x H' => ∃ k, TruV K x H' k ∧ Q k H'
theorem k_truth (ha : PE X e te) (he : ∀ whole, isTrue e X.env whole = (do let v ← whole; standAt e.pos; holding [v] (truthy v))) (hK : X.K = K := by rfl) : PT X e (tTru K te) := by subst hK; exact pt_truth ha he
end
theorem noTest {σ : St} {H : Hp} {A B : Hp → Prop} (h : A H) : tNoTest σ H (fun b H2 => if b = true then A H2 else B H2) := by
  show if true = true then A H else B H
  rw [if_pos rfl]; exact h
theorem cut_to (xs : List V) (k : Nat) : cutV xs none (some (k : Int)) = xs.take k := by
  unfold cutV
  rw [HT.sIx_nat, HT.sIx_none]
  simp only [List.drop_zero, Nat.sub_zero]
  by_cases h : k ≤ xs.length
  · rw [Nat.min_eq_left h]
  · rw [Nat.min_eq_right (by omega), List.take_of_length_le (Nat.le_refl _), List.take_of_length_le (by omega)]
theorem cut_both (xs : List V) (a b : Nat) : cutV xs (some (a : Int)) (some (b : Int)) = (xs.drop a).take (b - a) := by
  unfold cutV
  rw [HT.sIx_nat, HT.sIx_nat]
  by_cases ha : a ≤ xs.length
  · rw [Nat.min_eq_left ha]
    by_cases hb : b ≤ xs.length
    · rw [Nat.min_eq_left hb]
    · rw [Nat.min_eq_right (by omega), List.take_of_length_le (by simp), List.take_of_length_le (by simp; omega)]
  · rw [Nat.min_eq_right (Nat.le_of_not_le ha), List.drop_eq_nil_of_le (Nat.le_refl _), List.drop_eq_nil_of_le (Nat.le_of_not_le ha)]
    simp
end L2
namespace L2
open PySem PySem.Spec PyProof.Rows
section
variable {M : Model} {A : Around} {E : Value → Shared → Prop} {s : Shared}
end
section
variable {X : Cx} {pins : List (Addr × Obj)} {σ : St} {H1 H2 : Hp} {s1 : Shared} {h1 h2 : Heap}
end
section
variable {P : Program} {w : World} {K : PySem.W.Frag} {mg : Str → Option Value} {base : Heap} {N : List Str} {qual : Str} {scope : Scope} {f : Addr} {cd : Value} {A : Around} {outer : List Env} {s : Shared} {H : Hp} {E : XK}
  {pins : List (Addr × Obj)} {σ : St} {H1 : Hp} {s1 : Shared}
end
end L2
namespace L2
open PySem PySem.Spec PyProof.Rows
section
variable {P : Program} {w : World} {K : PySem.W.Frag} {mg : Str → Option Value} {base : Heap} {N : List Str} {qual : Str} {scope : Scope} {f : Addr} {cd : Value} {A : Around} {outer : List Env} {s : Shared} {H : Hp} {E : XK}
end
end L2
namespace L2
open PySem PySem.Spec PyProof.Rows
section
variable {h g : Heap} {H : Hp} {a : Addr} {C : Value}
end
section
variable {fs : List Addr} {H1 H2 : Hp} {h0 h1 h2 : Heap}
end
section
variable {X : Cx} {pins : List (Addr × Obj)} {σ : St} {H1 H2 : Hp} {s1 s2 : Shared} {a : Addr} {C : Value}
end
end L2
namespace L2
open PySem PySem.Spec PyProof.Rows
section
variable {X : Cx} {pins : List (Addr × Obj)} {σ : St} {H : Hp} {s : Shared}
end
section
variable {M : Model} {A : Around} {E : Value → Shared → Prop} {h : Heap} {g : Array GenState} {d : Drawn} {t : Nat} {os : OsState}
end
section
variable {X : Cx} {pins : List (Addr × Obj)} {σ : St} {H : Hp} {s : Shared} {e : Value}
end
end L2
namespace L2
open PySem PySem.Spec PyProof.Rows
section
variable {X : Cx} {pins : List (Addr × Obj)} {σ : St} {H : Hp} {s : Shared} {xe : Value → Shared → Prop}
end
abbrev TEX := St → Hp → VK → XK → Prop
abbrev TSX := Ends → (St → XK) → St → Hp → Prop
section
variable {X : Cx} {k : Nat} {f C : Addr} {fd : FuncData} {ps : List Str} {sp : Sp} {dvs : List V} {ds : List Value} {x m : Str} {p pos apos : Pos} {e o : Expr} {es : List Expr} {ta : TE} {t : TA}
end
section
variable {X : Cx} {e : Expr} {pos : Pos} {t : TEX} {st : Stmt} {rest : List Stmt} {a b : List Stmt} {ta tb : TSX}
end
end L2
namespace L2
open PySem PySem.Spec PyProof.Rows
section
variable {X : Cx} {x n : Str} {np hpos pos : Pos} {body suite : List Stmt} {b₀ : Stmt} {i : Nat} {tb : TSX} {ts : TS} {D0 : Addr} {Ok : Addr → Prop}
end
end L2
namespace L2
open PySem PySem.Spec PyProof.Rows
section
variable {prog : Program} {w : World} {A : Around} {E : Value → Shared → Prop} {h : Heap} {g : Array GenState} {d : Drawn} {t : Nat} {os : OsState} {a C : Addr} {o : Obj} {bm bmB : List Value} {nid : String}
end
section
variable {X : Cx} {pins : List (Addr × Obj)} {σ : St} {H : Hp} {s : Shared}
end
end L2
namespace L2
open PySem PySem.Spec PyProof.Rows
section
variable {X : Cx} {tg : Expr}
end
end L2
namespace L2
open PySem PySem.Spec PyProof.Rows
section
variable {X : Cx}
theorem truths_at {bs : List Bool} {its : List Value} (r : Vals (bs.map V.bl) its) {i : Nat} {v : Value} (e : its[i]? = some v) : v = .bool (bs.getD i false) := by
  have hl := r.length
  obtain ⟨hi, _⟩ := List.getElem?_eq_some_iff.mp e
  have hb : i < bs.length := by rw [List.length_map] at hl; omega
  have hx : (bs.map V.bl)[i]? = some (V.bl (bs.getD i false)) := by simp [hb]
  obtain ⟨u, e2, ru⟩ := r.get hx
  rw [e] at e2; cases e2
  exact ru
theorem range_all (bs : List Bool) : ((List.range bs.length).all fun i => bs.getD i false) = bs.all id := by
  rw [Bool.eq_iff_iff, List.all_eq_true, List.all_eq_true]
  constructor
  · intro h x hx
    obtain ⟨i, hi, e⟩ := List.getElem_of_mem hx
    have := h i (List.mem_range.mpr hi)
    simpa [List.getD_eq_getElem?_getD, List.getElem?_eq_getElem hi, e] using this
  · intro h i hi
    have hi := List.mem_range.mp hi
    have := h bs[i] (List.getElem_mem hi)
    simpa [List.getD_eq_getElem?_getD, List.getElem?_eq_getElem hi] using this
theorem call_allL (hc : X.calm = true) : CallR X (.builtin "all") (fun xs H Q => ∃ (p : Addr) (bs : List Bool), xs = [.ref p] ∧ SqL X.K H p (bs.map V.bl) ∧ Q (.bl (bs.all id)) H) := by
  intro pins s σ H vs us Q I r h
  obtain ⟨p, bs, rfl, hS, q⟩ := h
  obtain ⟨u, rfl, ru⟩ := vals1 r
  cases ru
  obtain ⟨its, rv, pl, hz⟩ := I.list hS
  have hl : its.length = bs.length := by have := rv.length; rw [List.length_map] at this; omega
  refine call_all_walk (wpAny_pyIter_list pl.isList ?_)
  obtain ⟨ol, el, cl, dl⟩ := id pl.isList
  have hpne : p ≠ s.heap.objs.size := Nat.ne_of_lt (Heap.lt_size el)
  have W := Walks.list (prog := X.prog) (w := X.w) (A := X.A.in1) (show X.A.in1.handled = none from I.ok.hd hc) s.heap.objs.size p hpne its.toArray
  refine ⟨s.heap.objs.size, [s.heap.objs.size, p], [s.heap.objs.size], its.toArray.size, _, _, fun i => bs.getD i false, rfl, W, ⟨⟨_, Heap.get?_push_size _ rfl, rfl, rfl⟩, ⟨ol, Heap.get?_push_of_some _ el, cl, dl⟩⟩, ?_, ?_⟩
  · intro i v s' Q' E' hP hQ
    have e : v = .bool (bs.getD i false) := truths_at rv (by simpa using hP)
    subst e
    exact wpAny_pure hQ
  · intro h' tk hk
    have e : ((List.range its.toArray.size).all fun i => bs.getD i false) = bs.all id := by
      rw [List.size_toArray, hl]; exact range_all bs
    rw [e]
    refine ⟨.bl (bs.all id), H, I.kept (t' := tk) fun b o e => hk b o (fun z => ?_) (Heap.get?_push_of_some _ e), rfl, q⟩
    have z' : b = s.heap.objs.size := by simpa using z
    subst z'
    exact absurd (Heap.lt_size e) (Nat.lt_irrefl _)
variable {e v1 v2 : Expr} {es : List Expr} {te : TE} {tp t : St → Hp → (Hp → Prop) → Prop} {pos : Pos}
end
end L2
namespace L2
open PySem PySem.Spec PyProof.Rows
section
variable {X : Cx} {K : PySem.W.Frag}
theorem k_all (hc : X.calm = true) (hK : X.K = K := by rfl) : CallR X (.builtin "all") (fun xs H Q => ∃ (p : Addr) (bs : List Bool), xs = [.ref p] ∧ SqL K H p (bs.map V.bl) ∧ Q (.bl (bs.all id)) H) := by subst hK; exact call_allL hc
end
abbrev tx (l : List Nat) : Str := ⟨l.toArray⟩
end L2
namespace PySem
end PySem
namespace L2
open PySem PySem.Spec PyProof.Rows
section
variable {X : Cx}
variable {o e f : Expr} {td : TE} {t : TA} {apos cpos : Pos} {K : PySem.W.Frag} {w : World}
end
end L2
namespace L2
open PySem PySem.Spec PyProof.Rows
section
variable {X : Cx} {K : PySem.W.Frag}
end
end L2
namespace L2
open PySem PySem.Spec PyProof.Rows
section
variable {X : Cx} {P : Program} {w : World} {K : PySem.W.Frag} {mg : Str → Option Value} {base : Heap} {A : Around} {CX : CXT} {E : XK} {x : Str} {p pos : Pos} {e : Expr} {es : List Expr} {tf : TE} {t : TA}
end
section
variable {X : Cx} {tg : Expr} {K : PySem.W.Frag}
end
end L2
namespace PySem
namespace F
end F
section
variable {prog : Program} {w : World} {A : Around} {E : Value → Shared → Prop} {s : Shared}
end
end PySem
namespace L2
open PySem PySem.Spec PyProof.Rows
section
variable {X : Cx} {K : PySem.W.Frag}
end
end L2
namespace L2
open PySem PySem.Spec PyProof.Rows
section
variable {X : Cx} {K : PySem.W.Frag} {elts : List Expr} {kt : Nat} {pt : Pos}
end
section
variable {X : Cx}
end
section
variable {X : Cx}
end
end L2
namespace L2
open PySem PySem.Spec PyProof.Rows
section
variable {X : Cx} {K : PySem.W.Frag}
end
end L2
namespace L2
open PySem PySem.Spec PyProof.Rows
section
variable {X : Cx} {K : PySem.W.Frag}
end
end L2
namespace Att
open PySem PySem.W PySem.Calls PyProof.Rows
end Att
namespace L2
open PySem PySem.Spec PyProof.Rows
end L2
namespace L2
open PySem PySem.Spec PyProof.Rows
section
variable {X : Cx} {K : PySem.W.Frag}
def rCatT0 (K : PySem.W.Frag) : R2 := fun x y H Q => ∃ a b ys, x = .ref a ∧ y = .ref b ∧ SqT K H a [] ∧ SqT K H b ys ∧ Q (.ref b) H
theorem op_catT0 : OpR X (binaryOp .Add) (rCatT0 X.K) := by
  intro pins s σ H x y v u Q I rx ry h
  obtain ⟨a, b, ys, rfl, rfl, ha, hb, q⟩ := h
  cases rx
  cases ry
  obtain ⟨its, r1, p1, _⟩ := I.tuple ha
  obtain ⟨its2, r2, p2, hz⟩ := I.tuple hb
  have e0 : its = [] := r1.nil_iff.mpr rfl
  subst e0
  obtain ⟨⟨cls, dd, data, sl⟩, ho, hc, n, hd⟩ := id p1
  obtain ⟨⟨cls2, dd2, data2, sl2⟩, ho2, hc2, n2, hd2⟩ := id p2
  simp only at hc hd hc2 hd2
  subst hc hd hc2 hd2
  exact concat_meets ⟨_, ho, rfl⟩ ⟨_, ho2, rfl⟩ noFill_tuple_add seq_tuple_add PySem.F.slot_tuple_add PySem.F.entry_tuple_add (PySem.F.args_tuple_add_2 _ _)
    (tuple_addW0 a b _ _ n n2 dd dd2 sl sl2 (by simp)) ⟨ho, ho2, ⟨.ref b, H, I, rfl, q⟩⟩
end
end L2
namespace PySem
open AutoSeq1 (wpAny_loadPart')
section
variable {prog : Program} {w : World} {A : Around} {E : Value → Shared → Prop} {s : Shared}
end
end PySem
namespace PySem
section
variable {prog : Program} {w : World} {A : Around} {E : Value → Shared → Prop} {s : Shared}
end
end PySem
namespace L2
open PySem PySem.Spec PyProof.Rows
end L2
namespace L2
open PySem PySem.Spec PyProof.Rows
section
variable {X : Cx} {K : PySem.W.Frag} {elts : List Expr} {kt : Nat} {pt : Pos}
end
end L2
namespace L2
open PySem PySem.Spec PyProof.Rows
section
variable {X : Cx} {K : PySem.W.Frag}
end
end L2
namespace PySem
open Sem (wp)
namespace ZT
def IsIt (t : Bool) (h : Heap) (i l : Addr) (k : Nat) : Prop := if t then h.IsTupleIter i l k else h.IsListIter i l k
def IsSq (t : Bool) (h : Heap) (l : Addr) (xs : Array Value) : Prop := if t then h.IsTuple l xs else h.IsList l xs
theorem IsIt.extBut {t : Bool} {h h' : Heap} {i b l : Addr} {k : Nat} (x : IsIt t h i l k) (hs : Heap.ExtBut b h h') (hb : i ≠ b) : IsIt t h' i l k := by
  cases t
  · exact Heap.IsListIter.extBut (show h.IsListIter i l k from x) hs hb
  · exact Heap.IsTupleIter.extBut (show h.IsTupleIter i l k from x) hs hb
theorem IsIt.at {t : Bool} {h h' : Heap} {i l : Addr} {k : Nat} (x : IsIt t h i l k) (e : ∀ o, h.get? i = some o → h'.get? i = some o) : IsIt t h' i l k := by
  cases t
  · obtain ⟨o, ho, r⟩ := (show h.IsListIter i l k from x)
    exact ⟨o, e o ho, r⟩
  · obtain ⟨o, ho, r⟩ := (show h.IsTupleIter i l k from x)
    exact ⟨o, e o ho, r⟩
theorem IsIt.live {t : Bool} {h : Heap} {i l : Addr} {k : Nat} (x : IsIt t h i l k) : ∃ o, h.get? i = some o := by
  cases t
  · obtain ⟨o, ho, r⟩ := (show h.IsListIter i l k from x)
    exact ⟨o, ho⟩
  · obtain ⟨o, ho, r⟩ := (show h.IsTupleIter i l k from x)
    exact ⟨o, ho⟩
theorem IsSq.at {t : Bool} {h h' : Heap} {l : Addr} {xs : Array Value} (x : IsSq t h l xs) (e : ∀ o, h.get? l = some o → h'.get? l = some o) : IsSq t h' l xs := by
  cases t
  · obtain ⟨o, ho, r⟩ := (show h.IsList l xs from x)
    exact ⟨o, e o ho, r⟩
  · obtain ⟨o, ho, r⟩ := (show h.IsTuple l xs from x)
    exact ⟨o, e o ho, r⟩
theorem IsSq.extBut {t : Bool} {h h' : Heap} {l b : Addr} {xs : Array Value} (x : IsSq t h l xs) (hs : Heap.ExtBut b h h') (hb : l ≠ b) : IsSq t h' l xs := x.at fun o e => hs l o hb e
section
variable {prog : Program} {w : World} {A : Around} {E : Value → Shared → Prop} {s : Shared}
theorem nextOf_tuple_item {it t : Addr} {i : Nat} {items} {x : Value} {Q : Value → Shared → Prop} (hit : s.heap.IsTupleIter it t i)
    (ht : s.heap.IsTuple t items) (hx : items[i]? = some x)
    (hQ : ∀ h', h'.IsTupleIter it t (i + 1) → Heap.SameBut it s.heap h' → Q x { s with heap := h' }) :
    wpAny (model prog w) A (Builtin.SmallTypes.nextOf (.ref it)) Q E s := by
  obtain ⟨o, ho, hc, hd⟩ := id hit
  obtain ⟨ol, hol, _, nl, hdl⟩ := ht
  unfold Builtin.SmallTypes.nextOf
  refine wpAny_bind (wpAny_callSpecial?_slot (name := Str.ofString "__next__") hit.typeIs F.slot_tuple_iterator_next
    (wpAny_call_entry F.slot_tuple_iterator_next hit.typeIs F.entry_tuple_iterator_next ?_ (F.args_tuple_iterator_next_1 _)))
  show wpAny _ _ (field (.ref it) 0 >>= _) _ _ s
  refine wpAny_bind (wpAny_field ho hd (x := .ref t) rfl ?_)
  show wpAny _ _ (if (Value.ref t == Value.none) = true then _ else _) _ _ s
  rw [if_neg (show ¬ ((Value.ref t == Value.none) = true) from Bool.false_ne_true)]
  show wpAny _ _ (field (.ref it) 1 >>= _) _ _ s
  refine wpAny_bind (wpAny_field ho hd (x := .int i 0) rfl ?_)
  show wpAny _ _ (seqItems? (.ref t) >>= _) _ _ s
  refine wpAny_bind (wpAny_seqItems hol hdl ?_)
  simp only [Int.toNat_natCast, hx]
  refine wpAny_bind (wpAny_setField ho hd (by simp) (wpAny_pure ⟨x, rfl, wpAny_pure (hQ _ ?_ (Heap.SameBut.update ..))⟩))
  exact ⟨_, Heap.get?_update_self _ ho (Obj.isFreed_of_fields (Obj.data_mapFields hd _)), (Obj.cls_mapFields ..).trans hc, by
    rw [Obj.data_mapFields hd]; simp [rawInt]⟩
theorem nextOf_tuple_end {it t : Addr} {i : Nat} {items} {Q : Value → Shared → Prop} (hh : A.handled = none)
    (hit : s.heap.IsTupleIter it t i) (ht : s.heap.IsTuple t items) (hx : items[i]? = none)
    (hE : ∀ h' e, Heap.ExtBut it s.heap h' → (∃ o, h'.get? e = some o ∧ o.cls = .type "StopIteration") → E (.ref e) { s with heap := h' }) :
    wpAny (model prog w) A (Builtin.SmallTypes.nextOf (.ref it)) Q E s := by
  obtain ⟨o, ho, hc, hd⟩ := id hit
  obtain ⟨ol, hol, _, nl, hdl⟩ := ht
  unfold Builtin.SmallTypes.nextOf
  refine wpAny_bind (wpAny_callSpecial?_slot (name := Str.ofString "__next__") hit.typeIs F.slot_tuple_iterator_next
    (wpAny_call_entry F.slot_tuple_iterator_next hit.typeIs F.entry_tuple_iterator_next ?_ (F.args_tuple_iterator_next_1 _)))
  show wpAny _ _ (field (.ref it) 0 >>= _) _ _ s
  refine wpAny_bind (wpAny_field ho hd (x := .ref t) rfl ?_)
  show wpAny _ _ (if (Value.ref t == Value.none) = true then _ else _) _ _ s
  rw [if_neg (show ¬ ((Value.ref t == Value.none) = true) from Bool.false_ne_true)]
  show wpAny _ _ (field (.ref it) 1 >>= _) _ _ s
  refine wpAny_bind (wpAny_field ho hd (x := .int i 0) rfl ?_)
  show wpAny _ _ (seqItems? (.ref t) >>= _) _ _ s
  refine wpAny_bind (wpAny_seqItems hol hdl ?_)
  simp only [Int.toNat_natCast, hx]
  refine wpAny_bind (wpAny_rule (wpAny_bind (wpAny_setField ho hd (by simp) ?_)))
  show wpAny _ _ (newExc (.type "StopIteration") [] >>= _) _ _ _
  refine wpAny_bind ?_
  simp only [newExc, newTuple]
  refine wpAny_bind (wpAny_newObj_type ?_ (by size_fits))
  refine wpAny_bind (m := firstArgMember _ _) (wpAny_of_eq (a := Value.none) (by first | rfl | (simp only [firstArgMember]; rfl)) ?_)
  refine wpAny_newObj_type ?_ (by size_fits)
  simp only [raiseNew]
  refine wpAny_bind (wpAny_handled ?_)
  first | rw [show A.in1.handled = none from hh] | rw [hh]
  refine wpAny_bind (wpAny_pure (wpAny_throw ?_))
  exact hE _ _ (((Heap.SameBut.update ..).extBut.push _).push _) ⟨_, Heap.get?_push_size _ rfl, rfl⟩
theorem next_item {t : Bool} {it l : Addr} {i : Nat} {items} {x : Value} {Q : Value → Shared → Prop} (hit : IsIt t s.heap it l i)
    (ht : IsSq t s.heap l items) (hx : items[i]? = some x)
    (hQ : ∀ h', IsIt t h' it l (i + 1) → Heap.SameBut it s.heap h' → Q x { s with heap := h' }) :
    wpAny (model prog w) A (Builtin.SmallTypes.nextOf (.ref it)) Q E s := by
  cases t
  · exact wpAny_nextOf_list_item hit ht hx hQ
  · exact nextOf_tuple_item hit ht hx hQ
theorem next_end {t : Bool} {it l : Addr} {i : Nat} {items} {Q : Value → Shared → Prop} (hh : A.handled = none) (hit : IsIt t s.heap it l i)
    (ht : IsSq t s.heap l items) (hx : items[i]? = none)
    (hE : ∀ h' e, Heap.ExtBut it s.heap h' → (∃ o, h'.get? e = some o ∧ o.cls = .type "StopIteration") → E (.ref e) { s with heap := h' }) :
    wpAny (model prog w) A (Builtin.SmallTypes.nextOf (.ref it)) Q E s := by
  cases t
  · exact wpAny_nextOf_list_end hh hit ht hx hE
  · exact nextOf_tuple_end hh hit ht hx hE
end
end ZT
end PySem
namespace PySem
open Sem (wp)
namespace ZT
abbrev IsZ (h : Heap) (z TI TO : Addr) (f0 f1 : Value) : Prop :=
  h.get? z = some { cls := .type "zip", dict := none, data := .fields #[f0, f1, .bool false, .ref TI, .ref TO], slots := #[] }
section
variable {prog : Program} {w : World} {A : Around} {E : Value → Shared → Prop} {s : Shared}
theorem wpAny_alive {M : Model} {a : Addr} {Q : Option Obj → Shared → Prop} (h : Q (s.heap.get? a) s) : wpAny M A (loadIfAlive a) Q E s := fun Γ p _ => by
  unfold loadIfAlive
  rw [Sem.wp_loadIfAlive]
  rw [Sem.wp]
  exact h
theorem not_free {z TI TO T : Addr} {b : Bool} {Q : Bool → Shared → Prop} (hz : IsZ s.heap z TI TO (rawInt T) (.bool b)) (hT : ∃ o, s.heap.get? T = some o)
    (hQ : ∀ h', IsZ h' z TI TO (rawInt T) (.bool true) → Heap.SameBut z s.heap h' → Q false { s with heap := h' }) :
    wpAny (model prog w) A (Builtin.SmallTypes.ownedTupleIsFree (.ref z)) Q E s := by
  obtain ⟨o, ho⟩ := hT
  unfold Builtin.SmallTypes.ownedTupleIsFree
  refine wpAny_bind (wpAny_field hz rfl (x := rawInt T) rfl ?_)
  show wpAny _ _ (loadIfAlive T >>= _) _ _ _
  refine wpAny_bind (wpAny_alive ?_)
  rw [ho]
  simp only [Option.isNone_some, Bool.false_eq_true, if_false]
  refine wpAny_bind (wpAny_field hz rfl (x := .bool b) rfl ?_)
  cases b
  · rw [if_pos (by decide)]
    exact wpAny_bind (wpAny_setField_rec hz (by simp) fun h' hz' hs' => wpAny_pure (hQ h' hz' hs'))
  · rw [if_neg (by decide)]
    exact wpAny_pure (hQ s.heap hz ⟨rfl, fun _ _ => rfl⟩)
theorem held_item {t1 t2 : Bool} {z TI TO i1 i2 l1 l2 T : Addr} {k1 k2 : Nat} {xs ys : Array Value} {x y : Value} {b : Bool} {Q : Value → Shared → Prop} (D : ZipApart z TI TO i1 i2 l1 l2)
    (hz : IsZ s.heap z TI TO (rawInt T) (.bool b)) (hT : ∃ o, s.heap.get? T = some o) (hTI : IsPair s.heap TI (.ref i1) (.ref i2))
    (h1 : IsIt t1 s.heap i1 l1 k1) (h2 : IsIt t2 s.heap i2 l2 k2) (hl1 : IsSq t1 s.heap l1 xs) (hl2 : IsSq t2 s.heap l2 ys) (hx : xs[k1]? = some x) (hy : ys[k2]? = some y)
    (hQ : ∀ h', IsZ h' z TI TO (rawInt T) (.bool true) → IsIt t1 h' i1 l1 (k1 + 1) → IsIt t2 h' i2 l2 (k2 + 1) → IsPair h' s.heap.objs.size x y → h'.objs.size = s.heap.objs.size + 1 →
      (∀ c o, c ≠ z → c ≠ i1 → c ≠ i2 → s.heap.get? c = some o → h'.get? c = some o) → Q (.ref s.heap.objs.size) { s with heap := h' }) :
    wpAny (model prog w) A (Builtin.«zip.__next__» ⟨[.ref z], []⟩) (fun fin s' => ∃ v, fin = .done (.ret v) ∧ Q v s') E s := by
  show wpAny _ _ (field (.ref z) 2 >>= _) _ _ _
  refine wpAny_bind (wpAny_field hz rfl (x := .bool false) rfl ?_)
  show wpAny _ _ (field (.ref z) 3 >>= _) _ _ _
  refine wpAny_bind (wpAny_field hz rfl (x := .ref TI) rfl ?_)
  refine wpAny_bind (wpAny_seqItems hTI rfl ?_)
  show wpAny _ _ (Builtin.SmallTypes.ownedTupleIsFree (.ref z) >>= _) _ _ _
  refine wpAny_bind (not_free hz hT fun h₁ hz₁ hs₁ => ?_)
  simp only [Bool.false_eq_true, if_false]
  refine wpAny_bind ?_
  rw [← Array.forIn_toList]
  simp only [List.forIn_cons, List.forIn_nil]
  refine wpAny_bind (wpAny_bind (wpAny_holding ?_))
  show wpAny _ _ (Builtin.SmallTypes.nextOf (.ref i1) >>= _) _ _ _
  refine wpAny_bind (next_item (h1.extBut hs₁.extBut D.i1z) (hl1.extBut hs₁.extBut D.l1z) hx fun h₂ h1₂ hs₂ => wpAny_pure (wpAny_pure ?_))
  refine wpAny_bind (wpAny_bind (wpAny_holding ?_))
  show wpAny _ _ (Builtin.SmallTypes.nextOf (.ref i2) >>= _) _ _ _
  refine wpAny_bind (next_item ((h2.extBut hs₁.extBut D.i2z).extBut hs₂.extBut D.i12.symm) ((hl2.extBut hs₁.extBut D.l2z).extBut hs₂.extBut D.l2i1) hy fun h₃ h2₃ hs₃ => wpAny_pure (wpAny_pure (wpAny_pure ?_)))
  refine wpAny_bind (wpAny_newTuple (wpAny_pure ⟨_, rfl, ?_⟩) (by show 2 ≤ sizeLine; decide))
  have hsz : h₃.objs.size = s.heap.objs.size := by rw [hs₃.1, hs₂.1, hs₁.1]
  have hz₃ : IsZ h₃ z TI TO (rawInt T) (.bool true) := hs₃.extBut _ _ D.i2z.symm (hs₂.extBut _ _ D.i1z.symm hz₁)
  have hk : ∀ c o, c ≠ z → c ≠ i1 → c ≠ i2 → s.heap.get? c = some o → h₃.get? c = some o := fun c o c1 c2 c3 e => hs₃.extBut _ _ c3 (hs₂.extBut _ _ c2 (hs₁.extBut _ _ c1 e))
  show Q (.ref h₃.objs.size) _
  have hp : IsPair (h₃.push { cls := .type "tuple", data := .seq #[x, y] }) h₃.objs.size x y := Heap.get?_push_size _ rfl
  rw [hsz] at hp ⊢
  exact hQ _ (Heap.get?_push_of_some _ hz₃) ((h1₂.extBut hs₃.extBut D.i12).at fun o e => Heap.get?_push_of_some _ e) (h2₃.at fun o e => Heap.get?_push_of_some _ e) hp (by rw [Heap.size_push, hsz]) fun c o c1 c2 c3 e => Heap.get?_push_of_some _ (hk c o c1 c2 c3 e)
theorem held_end {t1 t2 : Bool} {z TI TO i1 i2 l1 l2 T : Addr} {k1 k2 : Nat} {xs ys : Array Value} {b : Bool} {Q : Fin → Shared → Prop} (hh : A.handled = none) (D : ZipApart z TI TO i1 i2 l1 l2)
    (hz : IsZ s.heap z TI TO (rawInt T) (.bool b)) (hT : ∃ o, s.heap.get? T = some o) (hTI : IsPair s.heap TI (.ref i1) (.ref i2))
    (h1 : IsIt t1 s.heap i1 l1 k1) (h2 : IsIt t2 s.heap i2 l2 k2) (hl1 : IsSq t1 s.heap l1 xs) (hl2 : IsSq t2 s.heap l2 ys) (hend : xs[k1]? = none ∨ ys[k2]? = none)
    (hE : ∀ h' e, (∀ c o, c ≠ z → c ≠ i1 → c ≠ i2 → s.heap.get? c = some o → h'.get? c = some o) → (∃ o, h'.get? e = some o ∧ o.cls = .type "StopIteration") → E (.ref e) { s with heap := h' }) :
    wpAny (model prog w) A (Builtin.«zip.__next__» ⟨[.ref z], []⟩) Q E s := by
  show wpAny _ _ (field (.ref z) 2 >>= _) _ _ _
  refine wpAny_bind (wpAny_field hz rfl (x := .bool false) rfl ?_)
  show wpAny _ _ (field (.ref z) 3 >>= _) _ _ _
  refine wpAny_bind (wpAny_field hz rfl (x := .ref TI) rfl ?_)
  refine wpAny_bind (wpAny_seqItems hTI rfl ?_)
  show wpAny _ _ (Builtin.SmallTypes.ownedTupleIsFree (.ref z) >>= _) _ _ _
  refine wpAny_bind (not_free hz hT fun h₁ hz₁ hs₁ => ?_)
  simp only [Bool.false_eq_true, if_false]
  refine wpAny_bind ?_
  rw [← Array.forIn_toList]
  simp only [List.forIn_cons, List.forIn_nil]
  refine wpAny_bind (wpAny_bind (wpAny_holding ?_))
  show wpAny _ _ (Builtin.SmallTypes.nextOf (.ref i1) >>= _) _ _ _
  cases hx : xs[k1]? with
  | none => exact wpAny_bind (next_end hh (h1.extBut hs₁.extBut D.i1z) (hl1.extBut hs₁.extBut D.l1z) hx fun h₂ e hs₂ he => hE h₂ e (fun c o c1 c2 _ x => hs₂ _ _ c2 (hs₁.extBut _ _ c1 x)) he)
  | some x =>
    have hy : ys[k2]? = none := by rcases hend with h | h; rw [hx] at h; cases h; exact h
    refine wpAny_bind (next_item (h1.extBut hs₁.extBut D.i1z) (hl1.extBut hs₁.extBut D.l1z) hx fun h₂ h1₂ hs₂ => wpAny_pure (wpAny_pure ?_))
    refine wpAny_bind (wpAny_bind (wpAny_holding ?_))
    show wpAny _ _ (Builtin.SmallTypes.nextOf (.ref i2) >>= _) _ _ _
    exact wpAny_bind (next_end hh ((h2.extBut hs₁.extBut D.i2z).extBut hs₂.extBut D.i12.symm) ((hl2.extBut hs₁.extBut D.l2z).extBut hs₂.extBut D.l2i1) hy fun h₃ e hs₃ he => hE h₃ e (fun c o c1 c2 c3 x => hs₃ _ _ c3 (hs₂.extBut _ _ c2 (hs₁.extBut _ _ c1 x))) he)
theorem fresh_item {t1 t2 : Bool} {z TI TO i1 i2 l1 l2 : Addr} {k1 k2 : Nat} {xs ys : Array Value} {x y a b : Value} {Q : Value → Shared → Prop} (D : ZipApart z TI TO i1 i2 l1 l2)
    (hz : IsZ s.heap z TI TO .none (.bool false)) (hTI : IsPair s.heap TI (.ref i1) (.ref i2)) (hTO : IsPair s.heap TO a b)
    (h1 : IsIt t1 s.heap i1 l1 k1) (h2 : IsIt t2 s.heap i2 l2 k2) (hl1 : IsSq t1 s.heap l1 xs) (hl2 : IsSq t2 s.heap l2 ys) (hx : xs[k1]? = some x) (hy : ys[k2]? = some y)
    (hQ : ∀ h' b, IsZ h' z TI TO (rawInt s.heap.objs.size) (.bool b) → IsIt t1 h' i1 l1 (k1 + 1) → IsIt t2 h' i2 l2 (k2 + 1) → IsPair h' s.heap.objs.size x y → h'.objs.size = s.heap.objs.size + 1 →
      (∀ c o, c ≠ z → c ≠ TO → c ≠ i1 → c ≠ i2 → s.heap.get? c = some o → h'.get? c = some o) → IsPair h' TO x y → Q (.ref s.heap.objs.size) { s with heap := h' }) :
    wpAny (model prog w) A (Builtin.«zip.__next__» ⟨[.ref z], []⟩) (fun fin s' => ∃ v, fin = .done (.ret v) ∧ Q v s') E s := by
  show wpAny _ _ (field (.ref z) 2 >>= _) _ _ _
  refine wpAny_bind (wpAny_field hz rfl (x := .bool false) rfl ?_)
  show wpAny _ _ (field (.ref z) 3 >>= _) _ _ _
  refine wpAny_bind (wpAny_field hz rfl (x := .ref TI) rfl ?_)
  refine wpAny_bind (wpAny_seqItems hTI rfl ?_)
  show wpAny _ _ (Builtin.SmallTypes.ownedTupleIsFree (.ref z) >>= _) _ _ _
  refine wpAny_bind ?_
  unfold Builtin.SmallTypes.ownedTupleIsFree
  refine wpAny_bind (wpAny_field hz rfl (x := .none) rfl (wpAny_pure ?_))
  simp only [if_true]
  refine wpAny_bind (wpAny_rule ?_)
  refine wpAny_bind (wpAny_field hz rfl (x := .ref TO) rfl ?_)
  refine wpAny_bind (wpAny_setField_rec hz (by simp) fun g₁ z₁ q₁ => ?_)
  replace z₁ : IsZ g₁ z TI TO .ellipsis (.bool false) := z₁
  have p₁ : IsPair g₁ TO a b := q₁.extBut _ _ D.TOz hTO
  refine wpAny_bind ?_
  simp only [List.zipIdx_cons, List.zipIdx_nil, List.forIn_cons, List.forIn_nil]
  refine wpAny_bind (wpAny_bind (wpAny_onRaise ?_))
  show wpAny _ _ (Builtin.SmallTypes.nextOf (.ref i1) >>= _) _ _ _
  refine wpAny_bind (next_item (h1.extBut q₁.extBut D.i1z) (hl1.extBut q₁.extBut D.l1z) hx fun g₂ it₂ q₂ => wpAny_pure ?_)
  have p₂ : IsPair g₂ TO a b := q₂.extBut _ _ D.TOi1 p₁
  refine wpAny_bind (wpAny_seqItems p₂ rfl (wpAny_bind (wpAny_updateSeq_pair p₂ fun g₃ p₃ q₃ => wpAny_bind (wpAny_letGo (wpAny_pure ?_)))))
  replace p₃ : IsPair g₃ TO x b := p₃
  have k₃ : ∀ {c o}, c ≠ z → c ≠ i1 → c ≠ TO → s.heap.get? c = some o → g₃.get? c = some o := fun c1 c2 c3 e => q₃.extBut _ _ c3 (q₂.extBut _ _ c2 (q₁.extBut _ _ c1 e))
  refine wpAny_bind (wpAny_bind (wpAny_onRaise ?_))
  show wpAny _ _ (Builtin.SmallTypes.nextOf (.ref i2) >>= _) _ _ _
  refine wpAny_bind (next_item (h2.at fun o e => k₃ D.i2z D.i12.symm D.TOi2.symm e) (hl2.at fun o e => k₃ D.l2z D.l2i1 D.l2TO e) hy fun g₄ it₄ q₄ => wpAny_pure ?_)
  have p₄ : IsPair g₄ TO x b := q₄.extBut _ _ D.TOi2 p₃
  refine wpAny_bind (wpAny_seqItems p₄ rfl (wpAny_bind (wpAny_updateSeq_pair p₄ fun g₅ p₅ q₅ => wpAny_bind (wpAny_letGo (wpAny_pure (wpAny_pure ?_))))))
  replace p₅ : IsPair g₅ TO x y := p₅
  refine wpAny_bind (wpAny_seqItems p₅ rfl (wpAny_bind (wpAny_newTuple ?_)))
  have sz : g₅.objs.size = s.heap.objs.size := by rw [q₅.1, q₄.1, q₃.1, q₂.1, q₁.1]
  have z₅ : IsZ g₅ z TI TO .ellipsis (.bool false) := q₅.extBut _ _ D.TOz.symm (q₄.extBut _ _ D.i2z.symm (q₃.extBut _ _ D.TOz.symm (q₂.extBut _ _ D.i1z.symm z₁)))
  have k₅ : ∀ c o, c ≠ z → c ≠ TO → c ≠ i1 → c ≠ i2 → s.heap.get? c = some o → g₅.get? c = some o := fun c o c1 c2 c3 c4 e => q₅.extBut _ _ c2 (q₄.extBut _ _ c4 (k₃ c1 c3 c2 e))
  have it1 : IsIt t1 g₅ i1 l1 (k1 + 1) := it₂.at fun o e => q₅.extBut _ _ D.TOi1.symm (q₄.extBut _ _ D.i12 (q₃.extBut _ _ D.TOi1.symm e))
  have it2 : IsIt t2 g₅ i2 l2 (k2 + 1) := it₄.at fun o e => q₅.extBut _ _ D.TOi2.symm e
  have zlt : z < g₅.objs.size := Heap.lt_size z₅
  show wpAny _ _ (Builtin.SmallTypes.ownedTupleHandOut (.ref z) (.ref g₅.objs.size) >>= _) _ _ _
  refine wpAny_bind ?_
  unfold Builtin.SmallTypes.ownedTupleHandOut
  refine wpAny_bind (wpAny_setField_rec (Heap.get?_push_of_some _ z₅) (by simp) fun g₇ z₇ q₇ => ?_)
  replace z₇ : IsZ g₇ z TI TO (rawInt g₅.objs.size) (.bool false) := z₇
  refine wpAny_setField_rec z₇ (by simp) fun g₈ z₈ q₈ => wpAny_pure ⟨_, rfl, ?_⟩
  replace z₈ : IsZ g₈ z TI TO (rawInt g₅.objs.size) (.bool false) := z₈
  have up : ∀ c o, c ≠ z → g₅.get? c = some o → g₈.get? c = some o := fun c o c1 e => q₈.extBut _ _ c1 (q₇.extBut _ _ c1 (Heap.get?_push_of_some _ e))
  have pT : IsPair g₈ g₅.objs.size x y := q₈.extBut _ _ (Nat.ne_of_gt zlt) (q₇.extBut _ _ (Nat.ne_of_gt zlt) (Heap.get?_push_size _ rfl))
  have s8 : g₈.objs.size = g₅.objs.size + 1 := by rw [q₈.1, q₇.1, Heap.size_push]
  show Q (.ref g₅.objs.size) _
  rw [sz] at z₈ pT s8 ⊢
  exact hQ g₈ false z₈ (it1.at fun o e => up _ o D.i1z e) (it2.at fun o e => up _ o D.i2z e) pT s8 (fun c o c1 c2 c3 c4 e => up c o c1 (k₅ c o c1 c2 c3 c4 e)) (up _ _ D.TOz p₅)
end
end ZT
end PySem
namespace PySem
open Sem (wp)
open PyProof.Rows
namespace ZT
section
variable {prog : Program} {w : World} {A : Around} {E : Value → Shared → Prop} {s : Shared}
theorem pyNext_held {t1 t2 : Bool} {z TI TO i1 i2 l1 l2 T : Addr} {k1 k2 : Nat} {xs ys : Array Value} {x y : Value} {b : Bool} {Q : Option Value → Shared → Prop} (D : ZipApart z TI TO i1 i2 l1 l2)
    (hz : IsZ s.heap z TI TO (rawInt T) (.bool b)) (hT : ∃ o, s.heap.get? T = some o) (hTI : IsPair s.heap TI (.ref i1) (.ref i2))
    (h1 : IsIt t1 s.heap i1 l1 k1) (h2 : IsIt t2 s.heap i2 l2 k2) (hl1 : IsSq t1 s.heap l1 xs) (hl2 : IsSq t2 s.heap l2 ys) (hx : xs[k1]? = some x) (hy : ys[k2]? = some y)
    (hQ : ∀ h', IsZ h' z TI TO (rawInt T) (.bool true) → IsIt t1 h' i1 l1 (k1 + 1) → IsIt t2 h' i2 l2 (k2 + 1) → IsPair h' s.heap.objs.size x y → h'.objs.size = s.heap.objs.size + 1 →
      (∀ c o, c ≠ z → c ≠ i1 → c ≠ i2 → s.heap.get? c = some o → h'.get? c = some o) → Q (some (.ref s.heap.objs.size)) { s with heap := h' }) :
    wpAny (model prog w) A (pyNext (.ref z)) Q E s := by
  have ty : s.TypeIs (.ref z) "zip" := ⟨_, hz, rfl⟩
  unfold pyNext
  exact wpAny_bind (wpAny_attempt (wpAny_callSpecial?_slot (name := Str.ofString "__next__") ty F.slot_zip_next
    (wpAny_call_entry F.slot_zip_next ty F.entry_zip_next (held_item D hz hT hTI h1 h2 hl1 hl2 hx hy fun h' a1 a2 a3 a4 a5 a6 => wpAny_pure (hQ h' a1 a2 a3 a4 a5 a6)) (F.args_zip_next_1 _))))
theorem pyNext_fresh {t1 t2 : Bool} {z TI TO i1 i2 l1 l2 : Addr} {k1 k2 : Nat} {xs ys : Array Value} {x y a b : Value} {Q : Option Value → Shared → Prop} (D : ZipApart z TI TO i1 i2 l1 l2)
    (hz : IsZ s.heap z TI TO .none (.bool false)) (hTI : IsPair s.heap TI (.ref i1) (.ref i2)) (hTO : IsPair s.heap TO a b)
    (h1 : IsIt t1 s.heap i1 l1 k1) (h2 : IsIt t2 s.heap i2 l2 k2) (hl1 : IsSq t1 s.heap l1 xs) (hl2 : IsSq t2 s.heap l2 ys) (hx : xs[k1]? = some x) (hy : ys[k2]? = some y)
    (hQ : ∀ h' b, IsZ h' z TI TO (rawInt s.heap.objs.size) (.bool b) → IsIt t1 h' i1 l1 (k1 + 1) → IsIt t2 h' i2 l2 (k2 + 1) → IsPair h' s.heap.objs.size x y → h'.objs.size = s.heap.objs.size + 1 →
      (∀ c o, c ≠ z → c ≠ TO → c ≠ i1 → c ≠ i2 → s.heap.get? c = some o → h'.get? c = some o) → IsPair h' TO x y → Q (some (.ref s.heap.objs.size)) { s with heap := h' }) :
    wpAny (model prog w) A (pyNext (.ref z)) Q E s := by
  have ty : s.TypeIs (.ref z) "zip" := ⟨_, hz, rfl⟩
  unfold pyNext
  exact wpAny_bind (wpAny_attempt (wpAny_callSpecial?_slot (name := Str.ofString "__next__") ty F.slot_zip_next
    (wpAny_call_entry F.slot_zip_next ty F.entry_zip_next (fresh_item D hz hTI hTO h1 h2 hl1 hl2 hx hy fun h' b a1 a2 a3 a4 a5 a6 a7 => wpAny_pure (hQ h' b a1 a2 a3 a4 a5 a6 a7)) (F.args_zip_next_1 _))))
theorem pyNext_end {t1 t2 : Bool} {z TI TO i1 i2 l1 l2 T : Addr} {k1 k2 : Nat} {xs ys : Array Value} {b : Bool} {Q : Option Value → Shared → Prop} (hh : A.handled = none) (D : ZipApart z TI TO i1 i2 l1 l2)
    (hz : IsZ s.heap z TI TO (rawInt T) (.bool b)) (hT : ∃ o, s.heap.get? T = some o) (hTI : IsPair s.heap TI (.ref i1) (.ref i2))
    (h1 : IsIt t1 s.heap i1 l1 k1) (h2 : IsIt t2 s.heap i2 l2 k2) (hl1 : IsSq t1 s.heap l1 xs) (hl2 : IsSq t2 s.heap l2 ys) (hend : xs[k1]? = none ∨ ys[k2]? = none)
    (hQ : ∀ h', (∀ c o, c ≠ z → c ≠ i1 → c ≠ i2 → s.heap.get? c = some o → h'.get? c = some o) → Q none { s with heap := h' }) :
    wpAny (model prog w) A (pyNext (.ref z)) Q E s := by
  have ty : s.TypeIs (.ref z) "zip" := ⟨_, hz, rfl⟩
  unfold pyNext
  refine wpAny_bind (wpAny_attempt (wpAny_callSpecial?_slot (name := Str.ofString "__next__") ty F.slot_zip_next
    (wpAny_call_entry F.slot_zip_next ty F.entry_zip_next (held_end hh D hz hT hTI h1 h2 hl1 hl2 hend fun h' e hk he => ?_) (F.args_zip_next_1 _))))
  obtain ⟨o, ho, hc⟩ := he
  exact wpAny_bind (wpAny_isInstance (T := "StopIteration") (b := true) ⟨o, ho, hc⟩ isSubtype_stop (wpAny_pure (hQ _ hk)))
end
theorem nn {a b : Nat} (h : a ≠ b) : @Ne Addr a b := h
structure Had (N : Nat) (h0 h : Heap) (xs ys : Array Value) (i : Nat) (acc : Array Value) (c : Nat) : Prop where
  old : ∀ a o, a < N → h0.get? a = some o → h.get? a = some o
  lst : h.get? (N + 5) = some { cls := .type "list", dict := none, data := .seq acc c, slots := #[] }
  len : acc.size = i
  prs : ∀ j x y, j < i → xs[j]? = some x → ys[j]? = some y → ∃ p, acc[j]? = some (.ref p) ∧ IsPair h p x y ∧ N + 5 < p
structure Zs (t : Bool) (N l1 l2 : Nat) (h : Heap) (i : Nat) : Prop where
  z : (i = 0 ∧ IsZ h (N + 4) (N + 2) (N + 3) .none (.bool false)) ∨ (∃ (T : Addr) (b : Bool), IsZ h (N + 4) (N + 2) (N + 3) (rawInt T) (.bool b) ∧ (∃ o, h.get? T = some o) ∧ N + 5 < T)
  ti : IsPair h (N + 2) (.ref N) (.ref (N + 1))
  to : ∃ a b, IsPair h (N + 3) a b
  i1 : IsIt true h N l1 i
  i2 : IsIt t h (N + 1) l2 i
theorem pyNext_any {prog : Program} {w : World} {A : Around} {E : Value → Shared → Prop} {s : Shared} {t : Bool} {N l1 l2 i : Nat} {xs ys : Array Value} {x y : Value} {Q : Option Value → Shared → Prop} (a1 : l1 < N) (a2 : l2 < N) (hs : N + 5 < s.heap.objs.size)
    (hZ : Zs t N l1 l2 s.heap i) (hl1 : IsSq true s.heap l1 xs) (hl2 : IsSq t s.heap l2 ys) (hx : xs[i]? = some x) (hy : ys[i]? = some y)
    (hQ : ∀ h', Zs t N l1 l2 h' (i + 1) → IsPair h' s.heap.objs.size x y → h'.objs.size = s.heap.objs.size + 1 → (∀ c o, c < N ∨ N + 5 ≤ c → s.heap.get? c = some o → h'.get? c = some o) → Q (some (.ref s.heap.objs.size)) { s with heap := h' }) :
    wpAny (model prog w) A (pyNext (.ref (N + 4))) Q E s := by
  have D : ZipApart (N + 4) (N + 2) (N + 3) N (N + 1) l1 l2 := zipApart_new a1 a2
  obtain ⟨hz, hti, ⟨a, b, hto⟩, h1, h2⟩ := hZ
  rcases hz with ⟨rfl, hz⟩ | ⟨T, b', hz, hT, hTN⟩
  · refine pyNext_fresh D hz hti hto h1 h2 hl1 hl2 hx hy fun h' b' c1 c2 c3 c4 c5 ck c6 => hQ h' ⟨.inr ⟨_, b', c1, ⟨_, c4⟩, hs⟩, ck _ _ (nn (by omega)) (nn (by omega)) (nn (by omega)) (nn (by omega)) hti, ⟨_, _, c6⟩, c2, c3⟩ c4 c5 fun c o hc e => ck c o (nn (by omega)) (nn (by omega)) (nn (by omega)) (nn (by omega)) e
  · refine pyNext_held D hz hT hti h1 h2 hl1 hl2 hx hy fun h' c1 c2 c3 c4 c5 ck => hQ h' ⟨.inr ⟨T, true, c1, ?_, hTN⟩, ck _ _ (nn (by omega)) (nn (by omega)) (nn (by omega)) hti, ⟨a, b, ck _ _ (nn (by omega)) (nn (by omega)) (nn (by omega)) hto⟩, c2, c3⟩ c4 c5 fun c o hc e => ck c o (nn (by omega)) (nn (by omega)) (nn (by omega)) e
    obtain ⟨o, ho⟩ := hT
    exact ⟨o, ck _ _ (nn (by omega)) (nn (by omega)) (nn (by omega)) ho⟩
section
variable {prog : Program} {w : World} {A : Around} {R : Result → Shared → Prop} {s : Shared}
theorem loop {t : Bool} {N l1 l2 : Nat} {h0 : Heap} {xs ys : Array Value} {res : Value} (hh : A.handled = none) (a1 : l1 < N) (a2 : l2 < N) (b1 : IsSq true h0 l1 xs) (b2 : IsSq t h0 l2 ys) (hn : min xs.size ys.size ≤ sizeLine) (hp : 0 < min xs.size ys.size) :
    ∀ (k i : Nat) (h : Heap) (acc : Array Value) (c : Nat), min xs.size ys.size - i = k → i ≤ min xs.size ys.size → Had N h0 h xs ys i acc c → Zs t N l1 l2 h i → N + 5 < h.objs.size →
      (∀ h' acc' c', Had N h0 h' xs ys (min xs.size ys.size) acc' c' → N + 5 < h'.objs.size → R (.ok (.ret res)) { s with heap := h' }) →
      codeAny (model prog w) A (.builtin "list.extend.loop" ⟨[.ref (N + 5), .ref (N + 4), res], []⟩) R { s with heap := h } := by
  have D : ZipApart (N + 4) (N + 2) (N + 3) N (N + 1) l1 l2 := zipApart_new a1 a2
  intro k
  induction k with
  | zero =>
    intro i h acc c hk hi hH hZ hs hR
    have hin : i = min xs.size ys.size := by omega
    subst hin
    refine codeAny_builtin F.entry_extend_loop ?_
    rw [Around.under_plainId F.plain_extend_loop _]
    show wpAny _ A.in1 (pyNext (.ref (N + 4)) >>= _) _ _ _
    obtain ⟨T, b, hz, hT, _⟩ := hZ.z.resolve_left fun z => by omega
    have hend : xs[min xs.size ys.size]? = none ∨ ys[min xs.size ys.size]? = none := by
      rcases Nat.le_total xs.size ys.size with h | h
      · exact .inl (by rw [Nat.min_eq_left h]; exact Array.getElem?_eq_none (Nat.le_refl _))
      · exact .inr (by rw [Nat.min_eq_right h]; exact Array.getElem?_eq_none (Nat.le_refl _))
    refine wpAny_bind (pyNext_end (s := { s with heap := h }) hh D hz hT hZ.ti hZ.i1 hZ.i2 (b1.at fun o e => hH.old _ o a1 e) (b2.at fun o e => hH.old _ o a2 e) hend fun h' hk' => ?_)
    have keep : ∀ a o, a < N ∨ N + 5 ≤ a → h.get? a = some o → h'.get? a = some o := fun a o ha e => hk' a o (nn (by omega)) (nn (by omega)) (nn (by omega)) e
    refine wpAny_pure (hR h' acc c ⟨fun a o ha e => keep a o (.inl ha) (hH.old a o ha e), keep _ _ (.inr (Nat.le_refl _)) hH.lst, hH.len, fun j x y hj hx hy => ?_⟩ ?_)
    · obtain ⟨p, e1, e2, e3⟩ := hH.prs j x y hj hx hy
      exact ⟨p, e1, keep _ _ (.inr (by omega)) e2, e3⟩
    · exact Heap.lt_size (keep _ _ (.inr (Nat.le_refl _)) hH.lst)
  | succ k ih =>
    intro i h acc c hk hi hH hZ hs hR
    have hlt : i < min xs.size ys.size := by omega
    have hx : xs[i]? = some (xs[i]'(by omega)) := Array.getElem?_eq_getElem (by omega)
    have hy : ys[i]? = some (ys[i]'(by omega)) := Array.getElem?_eq_getElem (by omega)
    refine codeAny_builtin F.entry_extend_loop ?_
    rw [Around.under_plainId F.plain_extend_loop _]
    show wpAny _ A.in1 (pyNext (.ref (N + 4)) >>= _) _ _ _
    refine wpAny_bind (pyNext_any (s := { s with heap := h }) a1 a2 hs hZ (b1.at fun o e => hH.old _ o a1 e) (b2.at fun o e => hH.old _ o a2 e) hx hy fun h' hZ' hp' hs' hk' => ?_)
    have hS' := hk' _ _ (.inr (Nat.le_refl _)) hH.lst
    show wpAny _ A.in1 (updateSeq (N + 5) (·.push (.ref h.objs.size)) >>= _) _ _ _
    refine wpAny_bind ?_
    refine wpAny_updateSeq hS' rfl (wpAny_pure ⟨plainId_quiet F.plain_extend_loop _, ih (i + 1) (h'.update (N + 5) (Obj.mapSeq (·.push (.ref h.objs.size)))) (acc.push (.ref h.objs.size)) _ (by omega) hlt ⟨fun a o ha e => ?_, Heap.get?_update_self _ hS' rfl, by rw [Array.size_push, hH.len], fun j x y hj hxj hyj => ?_⟩ ?_ ?_ hR⟩)
      (by rw [hH.len]; omega) (by show (acc.push _).size ≤ sizeLine + 1; rw [Array.size_push, hH.len]; omega)
    · exact (Heap.get?_update_other _ _ (nn (by omega))).trans (hk' a o (.inl ha) (hH.old a o ha e))
    · by_cases e : j = i
      · subst e
        rw [hx] at hxj
        rw [hy] at hyj
        cases hxj
        cases hyj
        exact ⟨h.objs.size, by rw [Array.getElem?_push, if_pos hH.len.symm], (Heap.get?_update_other _ _ (nn (by omega))).trans hp', hs⟩
      · obtain ⟨p, e1, e2, e3⟩ := hH.prs j x y (by omega) hxj hyj
        exact ⟨p, by rw [Array.getElem?_push, if_neg (by rw [hH.len]; exact e)]; exact e1, (Heap.get?_update_other _ _ (nn (by omega))).trans (hk' _ _ (.inr (by omega)) e2), e3⟩
    · obtain ⟨z1, z2, ⟨a, b, z3⟩, z4, z5⟩ := hZ'
      have up : ∀ a o, a ≠ N + 5 → h'.get? a = some o → (h'.update (N + 5) (Obj.mapSeq (·.push (.ref h.objs.size)))).get? a = some o := fun a o ha e => (Heap.get?_update_other _ _ (nn (Ne.symm ha))).trans e
      refine ⟨?_, up _ _ (by omega) z2, ⟨a, b, up _ _ (by omega) z3⟩, z4.at fun o e => up _ _ (by omega) e, z5.at fun o e => up _ _ (by omega) e⟩
      rcases z1 with ⟨z, _⟩ | ⟨T, b, z, ⟨o, ho⟩, hT⟩
      · omega
      · exact .inr ⟨T, b, up _ _ (by omega) z, ⟨o, up _ _ (by omega) ho⟩, hT⟩
    · exact Heap.lt_size (Heap.get?_update_self _ hS' rfl)
end
end ZT
end PySem
namespace PySem
open Sem (wp)
open PyProof.Rows
namespace F
end F
namespace ZT
section
variable {prog : Program} {w : World} {A : Around} {E : Value → Shared → Prop} {s : Shared}
end
end ZT
end PySem
namespace PySem
open Sem (wp)
open PyProof.Rows
namespace ZT
section
variable {prog : Program} {w : World} {A : Around} {E : Value → Shared → Prop} {s : Shared}
end
end ZT
end PySem
namespace L2
open PySem PySem.Spec PyProof.Rows
section
variable {X : Cx} {K : PySem.W.Frag} {pins : List (Addr × Obj)} {σ : St} {H H' : Hp} {s : Shared} {h' : Heap}
end
end L2
namespace L2
open PySem PySem.Spec PyProof.Rows
section
variable {X : Cx} {K : PySem.W.Frag} {pins : List (Addr × Obj)} {σ : St} {H : Hp} {s : Shared} {A : Around} {E : Value → Shared → Prop} {Q : Value → Shared → Prop} {b : Bool}
theorem isinst_tup {x c d : V} {u t u1 u2 : Value} {p : Addr} (I : Inv X pins σ H s) (rx : RelV x u) (hp : SqT X.K H p [c, d]) (r1 : ∀ v, RelV c v → v = u1) (r2 : ∀ v, RelV d v → v = u2) (ty : TyOf X.K H x t) (e : PySem.W.kitAny X.K t [u1, u2] = some b) (hx : u ≠ .builtin "__main__.__loader__#opaque") (h : ∀ tk, Q (.bool b) { s with toks := tk }) :
    wpAny (model X.prog X.w) A (call (.builtin "isinstance") [u, .ref p]) Q E s := by
  obtain ⟨its, r, ⟨⟨cl, dd, da, sl⟩, hg, hc, n, hd⟩, _⟩ := I.tuple hp
  simp only at hc hd
  subst hc hd
  obtain ⟨w1, w2, rfl, q1, q2⟩ := vals2 r
  cases r1 _ q1
  cases r2 _ q2
  cases ty with
  | non => cases (show u = Value.none from rx); exact PySem.W.kia_tup PySem.W.kitx_none I.kIn True.intro hg e hx h
  | bl y => cases (show u = Value.bool y from rx); exact PySem.W.kia_tup PySem.W.kitx_bool I.kIn True.intro hg e hx h
  | int i => obtain ⟨t, q⟩ := (show ∃ t, u = Value.int i t from rx); cases q; exact PySem.W.kia_tup PySem.W.kitx_int I.kIn True.intro hg e hx h
  | str y => obtain ⟨t, q⟩ := (show ∃ t, u = Value.str y t from rx); cases q; exact PySem.W.kia_tup PySem.W.kitx_str I.kIn True.intro hg e hx h
  | flt y => obtain ⟨t, q⟩ := (show ∃ t, u = Value.float y t from rx); cases q; exact PySem.W.kia_tup PySem.W.kitx_float I.kIn True.intro hg e hx h
  | @lst a xs ea =>
    cases (show u = Value.ref a from rx)
    obtain ⟨_, _, n, _, h1⟩ := (show ObjOk X.prog X.w H s.heap a (.lst xs) from I.hok a _ ea)
    exact PySem.W.kia_tup PySem.W.kitx_list I.kIn ⟨_, h1, rfl⟩ hg e hx h
  | @frz a ob xs ea =>
    cases (show u = Value.ref a from rx)
    obtain ⟨_, _, _, n, _, h1⟩ := (show ObjOk X.prog X.w H s.heap a (.frz ob (.lst xs)) from I.hok a _ ea)
    exact PySem.W.kia_tup PySem.W.kitx_list I.kIn ⟨_, h1, rfl⟩ hg e hx h
  | @tup a xs ea =>
    cases (show u = Value.ref a from rx)
    obtain ⟨_, _, _, p⟩ := (show ObjOk X.prog X.w H s.heap a (.tup xs) from I.hok a _ ea)
    obtain ⟨o, h1, h2, _⟩ := p
    exact PySem.W.kia_tup PySem.W.kitx_tuple I.kIn ⟨o, h1, h2⟩ hg e hx h
  | @dK a kvs ea =>
    cases (show u = Value.ref a from rx)
    obtain ⟨_, _, vs, _, p⟩ := (show ObjOk X.prog X.w H s.heap a (.dK kvs) from I.hok a _ ea)
    obtain ⟨o, es, ep, h1, h2, _⟩ := p
    exact PySem.W.kia_tup PySem.W.kitx_dict I.kIn ⟨o, h1, h2.1⟩ hg e hx h
  | @dT a kvs ea =>
    cases (show u = Value.ref a from rx)
    obtain ⟨_, _, xs, _, o, es, ep, h1, h2, _⟩ := (show ObjOk X.prog X.w H s.heap a (.dT kvs) from I.hok a _ ea)
    exact PySem.W.kia_tup PySem.W.kitx_dict I.kIn ⟨o, h1, h2.1⟩ hg e hx h
  | @ins a C dx fs ea cl ha hn htk hm =>
    cases (show u = Value.ref a from rx)
    obtain ⟨mA, O, _⟩ := ins_get I.hok ea
    obtain ⟨od, J, _⟩ := O.look
    exact PySem.W.kia_tup (PySem.W.kitx_own (cl.get _) cl.hd ha hn htk hm) I.kIn J hg e hx h
theorem not_loader {x : V} {u t : Value} (rx : RelV x u) (ty : TyOf K H x t) : u ≠ .builtin "__main__.__loader__#opaque" := by
  cases ty with
  | non => cases (show u = Value.none from rx); exact fun z => nomatch z
  | bl y => cases (show u = Value.bool y from rx); exact fun z => nomatch z
  | int i => obtain ⟨t, q⟩ := (show ∃ t, u = Value.int i t from rx); cases q; exact fun z => nomatch z
  | str y => obtain ⟨t, q⟩ := (show ∃ t, u = Value.str y t from rx); cases q; exact fun z => nomatch z
  | flt y => obtain ⟨t, q⟩ := (show ∃ t, u = Value.float y t from rx); cases q; exact fun z => nomatch z
  | lst | frz | tup | dK | dT | ins => cases rx; exact fun z => nomatch z
theorem call_isi2 : CallR X (.builtin "isinstance") (fun xs H Q => ∃ x c d t b p, xs = [x, .ref p] ∧ SqT X.K H p [.ty c, .ty d] ∧ TyOf X.K H x t ∧ PySem.W.kitAny X.K t [.type c, .type d] = some b ∧ Q (.bl b) H) := by
  intro pins s σ H xs us Q I r h
  obtain ⟨x, c, d, t, b, p, rfl, hp, ty, hk, q⟩ := h
  obtain ⟨u, v, rfl, ru, rv⟩ := vals2 r
  cases rv
  exact isinst_tup I ru hp (fun v h => by cases h; rfl) (fun v h => by cases h; rfl) ty hk (not_loader ru ty) fun tk => ⟨.bl b, H, I.tok _, rfl, q⟩
theorem k_isi2 (hK : X.K = K := by rfl) : CallR X (.builtin "isinstance") (fun xs H Q => ∃ x c d t b p, xs = [x, .ref p] ∧ SqT K H p [.ty c, .ty d] ∧ TyOf K H x t ∧ PySem.W.kitAny K t [.type c, .type d] = some b ∧ Q (.bl b) H) := by subst hK; exact call_isi2
end
end L2
set_option maxHeartbeats 1000000
namespace L2
open PySem PySem.Spec PyProof.Rows
def Dq (K : PySem.W.Frag) (H : Hp) : Nat → V → V → Prop
  | 0, x, y => plainV x = true ∧ x = y
  | n + 1, x, y => (plainV x = true ∧ x = y) ∨ ∃ a b xs ys, x = .ref a ∧ y = .ref b ∧ SqT K H a xs ∧ SqT K H b ys ∧ xs.length = ys.length ∧ ∀ (j : Nat) u v, xs[j]? = some u → ys[j]? = some v → Dq K H n u v
section
variable {X : Cx} {K : PySem.W.Frag} {pins : List (Addr × Obj)} {σ : St} {H : Hp} {s : Shared}
theorem vals_at2 {xs : List V} {us : List Value} (r : Vals xs us) {j : Nat} (h1 : j < us.toArray.size) : ∃ x, xs[j]? = some x ∧ RelV x us.toArray[j] := by
  have hj : j < xs.length := by rw [r.length]; simpa using h1
  obtain ⟨u, hu, ru⟩ := r.get (i := j) (x := xs[j]) (by simp [hj])
  have e1 : us.toArray[j] = u := by
    have : us[j]? = some us.toArray[j] := by simp
    rw [hu] at this; exact (Option.some.inj this).symm
  exact ⟨xs[j], by simp [hj], by rw [e1]; exact ru⟩
theorem rcAt_of (I : Inv X pins σ H s) {A : Around} {a b : Addr} {xs ys : List V} (hu : A.units < cLine) (ha : SqT X.K H a xs) (hb : SqT X.K H b ys) (hl : xs.length = ys.length)
    (he : ∀ (j : Nat) x y u v, xs[j]? = some x → ys[j]? = some y → RelV x u → RelV y v → SeqAt.EqAt A.in1 s u v true) : SeqAt.RcAt A s (.ref a) (.ref b) true := by
  obtain ⟨its, r, pl, _⟩ := I.tuple ha
  obtain ⟨its2, r2, pl2, _⟩ := I.tuple hb
  have hl2 : its.length = its2.length := by rw [← r.length, ← r2.length]; exact hl
  have h := SeqAt.RcAt.tuples (A := A) (s := s) (e := fun _ => true) pl pl2 hu (fun j h1 h2 => by
    obtain ⟨x, hx, rx⟩ := vals_at2 r h1
    obtain ⟨y, hy, ry⟩ := vals_at2 r2 h2
    exact he j x y _ _ hx hy rx ry)
  have e : ((List.range (min its.toArray.size its2.toArray.size)).all (fun _ => true) && its.toArray.size == its2.toArray.size) = true := by simp [hl2]
  rw [e] at h
  exact h
theorem eqAt_dq (I : Inv X pins σ H s) (n : Nat) : ∀ (A : Around) (x y : V) (u v : Value), A.units + n < cLine → Dq X.K H n x y → RelV x u → RelV y v → SeqAt.EqAt A s u v true := by
  induction n with
  | zero =>
    intro A x y u v _ h rx ry
    obtain ⟨hp, rfl⟩ := h
    exact eqAt_same rx ry hp
  | succ n ih =>
    intro A x y u v hu h rx ry
    rcases h with ⟨hp, rfl⟩ | ⟨a, b, xs, ys, rfl, rfl, ha, hb, hl, hd⟩
    · exact eqAt_same rx ry hp
    · cases rx; cases ry
      by_cases e : a = b
      · subst e; exact SeqAt.EqAt.same _
      · have h1 : A.units < cLine := Nat.lt_of_le_of_lt (Nat.le_add_right _ _) hu
        have h2 : A.in1.units + n < cLine := by
          show A.units + 1 + n < cLine
          rw [Nat.add_assoc, Nat.add_comm 1 n]; exact hu
        exact SeqAt.EqAt.of_refs e (rcAt_of I h1 ha hb hl fun j x y u v hx hy rx ry => ih A.in1 x y u v h2 (hd j x y hx hy) rx ry)
end
end L2
namespace HT
open PySem PyProof.Rows
section
variable {prog : Program} {w : World} {A : Around} {E : Value → Shared → Prop} {s : Shared}
theorem getItem_tuple_whole {t sl : Addr} {items : Array Value} {vl vu : Value} {lo hi : Option Int} {Q : Value → Shared → Prop} (ht : IsTup s.heap t items) (hs : s.heap.IsSliceOf sl vl vu .none) (pl : IsPart vl lo) (pu : IsPart vu hi)
    (hw : sIx items.size 0 lo = 0 ∧ sIx items.size items.size hi = items.size)
    (h : Q (.ref t) s) : wpAny (model prog w) A (getItem (.ref t) (.ref sl)) Q E s := by
  obtain ⟨os, hos, hcs, hds⟩ := id hs
  have hTs : s.TypeIs (.ref sl) "slice" := ⟨os, hos, hcs⟩
  unfold getItem
  try with_reducible refine wpAny_holding ?_
  first | refine wpAny_bind (wpAny_pure ?_) | skip
  refine wpAny_bind (wpAny_sequenceKey ht.typeIs (by decide) ?_)
  refine wpAny_bind (wpAny_callSpecial?_slot (name := Str.ofString "__getitem__") ht.typeIs PyProof.Rows.slot_tuple_getitem
    (wpAny_call_entry PyProof.Rows.slot_tuple_getitem ht.typeIs entry_tuple_getitem ?_ (args_tuple_getitem _ _)))
  show wpAny _ _ (Builtin.Tuple.tupleItemsOf (.ref t) >>= _) _ _ s
  refine wpAny_bind (tupleItemsOf_ ht ?_)
  refine wpAny_bind (wpAny_typeOf hTs ?_)
  rw [if_pos (by decide)]
  refine wpAny_bind (sliceApplied_gen hs pl pu ?_)
  have hyes : (((sIx items.size 0 lo : Nat) : Int) == 0 && (1 : Int) == 1 && (sIx items.size items.size hi - sIx items.size 0 lo) == items.size) = true := by
    rw [hw.1, hw.2]; simp
  show wpAny _ _ (if (((sIx items.size 0 lo : Nat) : Int) == 0 && (1 : Int) == 1 && (sIx items.size items.size hi - sIx items.size 0 lo) == items.size) = true then _ else _) _ _ s
  rw [if_pos hyes]
  unfold Builtin.Tuple.tupleIsExact
  refine wpAny_bind (wpAny_bind (wpAny_typeOf ht.typeIs ?_))
  repeat (first | refine wpAny_pure ?_ | refine wpAny_bind ?_ | refine wpAny_rule ?_ | rw [if_pos (by decide)])
  exact ⟨_, rfl, wpAny_pure h⟩
end
end HT
namespace L2
open PySem PySem.Spec PyProof.Rows
section
variable {X : Cx} {K : PySem.W.Frag}
def rSlW (K : PySem.W.Frag) : V → Option Int → Option Int → Hp → VK → Prop := fun x lo hi H Q => ∃ a xs, x = .ref a ∧ SqT K H a xs ∧ (HT.sIx xs.length 0 lo = 0 ∧ HT.sIx xs.length xs.length hi = xs.length) ∧ Q (.ref a) H
theorem sl_whole : SlR X (rSlW X.K) := by
  intro pins s σ H x v vl vu lo hi sl Q I rx hs pl pu h
  obtain ⟨a, xs, rfl, hx, hw, q⟩ := h
  cases rx
  obtain ⟨its, r, ht, hz⟩ := I.tuple hx
  have hlen : its.toArray.size = xs.length := by rw [List.size_toArray]; exact r.length.symm
  refine ⟨"tuple", _, PyProof.Rows.slot_tuple_getitem.lookup, ht.typeIs, ?_⟩
  exact HT.getItem_tuple_whole ht hs pl pu (by rw [hlen]; exact hw) ⟨.ref a, H, I, rfl, q⟩
theorem kSl3 (hK : X.K = K := by rfl) : SlR X (fun x lo hi H Q => (rSlL K x lo hi H Q ∨ rSlT K x lo hi H Q) ∨ rSlW K x lo hi H Q) := by subst hK; exact sl_any.or sl_whole
end
end L2
namespace TM
open PySem PyProof.Rows
section
variable {prog : Program} {w : World} {A : Around} {E : Value → Shared → Prop} {s : Shared}
end
end TM
namespace L2
open PySem PySem.Spec PyProof.Rows
section
variable {X : Cx} {K : PySem.W.Frag}
end
end L2
namespace L2
open PySem PySem.Spec PyProof.Rows
section
variable {X : Cx} {K : PySem.W.Frag}
theorem kAdd3 (hK : X.K = K := by rfl) : OpR X (binaryOp .Add) (fun x y H Q => rI0 (fun i j => .int (i + j)) x y H Q ∨ rCat x y H Q ∨ rCatT K x y H Q ∨ rCatT0 K x y H Q) := by
  subst hK; exact op_add.or (op_cat.or (op_catT.or op_catT0))
end
end L2
set_option maxHeartbeats 1000000
namespace TM
open PySem PyProof.Rows PySem.SeqAt
end TM
namespace L2
open PySem PySem.Spec PyProof.Rows
section
variable {X : Cx} {K : PySem.W.Frag}
end
end L2
namespace L2
open PySem PySem.Spec PyProof.Rows
section
variable {X : Cx} {K : PySem.W.Frag} {e : Expr} {es tes : List Expr} {t tt : TA} {name : Str} {apos cpos tpos : Pos} {id : String} {r : V → List V → Hp → VK → Prop}
end
end L2
namespace L2
open PySem PySem.Spec PyProof.Rows
end L2
namespace L2
open PySem PySem.Spec PyProof.Rows
section
variable {X : Cx} {c P : Addr} {params : Arguments} {body : Expr} {scope : Scope} {pos : Pos} {clos : List (Str × Addr)}
end
end L2
namespace L2
open PySem PySem.Spec PyProof.Rows
section
variable {X : Cx} {k : Nat} {g : Addr} {fd : FuncData} {ps : List Str} {sp : Heap → Sp} {x : Str} {p pos : Pos} {e : Expr} {es : List Expr} {t : TA} {name qual : Str} {params : Arguments} {body : Expr} {scope : Scope} {clos : List (Str × Addr)} {pm : Value} {fs : List Str} {js : List Nat}
end
end L2
namespace L2
open PySem PySem.Spec PyProof.Rows
section
variable {X : Cx} {P : Program} {w : World} {K : PySem.W.Frag} {mg : Str → Option Value} {base : Heap} {A : Around} {CX : CXT} {E : XK} {x : Str} {p pos : Pos} {e : Expr} {es : List Expr} {tf : TE} {t : TA}
end
end L2
namespace L2
open PySem PySem.Spec PyProof.Rows
section
variable {κ : Type} [DecidableEq κ]
def valV (kvs : List (κ × V)) (k : κ) : Option V := (kvs.find? fun kv => decide (kv.1 = k)).map (·.2)
def putK (kvs : List (κ × V)) (k : κ) (v : V) : List (κ × V) :=
  if (kvs.any fun kv => decide (kv.1 = k)) = true then kvs.map (fun kv => if kv.1 = k then (kv.1, v) else kv) else kvs ++ [(k, v)]
theorem valV_pos {p : κ × V} {r : List (κ × V)} {k : κ} (e : p.1 = k) : valV (p :: r) k = some p.2 := by simp [valV, List.find?_cons, e]
theorem valV_neg {p : κ × V} {r : List (κ × V)} {k : κ} (e : ¬ p.1 = k) : valV (p :: r) k = valV r k := by simp [valV, List.find?_cons, e]
theorem valV_any (k : κ) : ∀ kvs : List (κ × V), (kvs.any fun kv => decide (kv.1 = k)) = (valV kvs k).isSome
  | [] => rfl
  | p :: r => by
    rw [List.any_cons]
    by_cases e : p.1 = k
    · simp only [valV_pos e, decide_eq_true e, Bool.true_or, Option.isSome_some]
    · rw [valV_neg e, decide_eq_false e, Bool.false_or]; exact valV_any k r
theorem valV_map (k j : κ) (y : V) : ∀ kvs : List (κ × V), valV (kvs.map fun kv => if kv.1 = k then (kv.1, y) else kv) j = (valV kvs j).map fun x => if j = k then y else x
  | [] => rfl
  | p :: r => by
    have ih := valV_map k j y r
    rw [List.map_cons]
    by_cases h : p.1 = k
    · rw [if_pos h]
      by_cases e : p.1 = j
      · rw [valV_pos (p := (p.1, y)) e, valV_pos e, Option.map_some, if_pos (e.symm.trans h)]
      · rw [valV_neg (p := (p.1, y)) e, valV_neg e, ih]
    · rw [if_neg h]
      by_cases e : p.1 = j
      · rw [valV_pos (p := p) e, valV_pos e, Option.map_some, if_neg (fun z => h (e.trans z))]
      · rw [valV_neg (p := p) e, valV_neg e, ih]
theorem valV_snoc (k j : κ) (y : V) : ∀ kvs : List (κ × V), valV kvs k = none → valV (kvs ++ [(k, y)]) j = if j = k then some y else valV kvs j
  | [], _ => by
    by_cases e : k = j
    · rw [if_pos e.symm]; exact valV_pos (p := (k, y)) e
    · rw [if_neg (fun z => e z.symm)]; exact valV_neg (p := (k, y)) e
  | p :: r, hn => by
    rw [List.cons_append]
    have hk : ¬ p.1 = k := fun z => by rw [valV_pos z] at hn; cases hn
    rw [valV_neg hk] at hn
    have ih := valV_snoc k j y r hn
    by_cases e : p.1 = j
    · rw [valV_pos e, valV_pos e, if_neg (fun z => hk (e.trans z))]
    · rw [valV_neg e, valV_neg e, ih]
theorem valV_put (kvs : List (κ × V)) (k j : κ) (y : V) : valV (putK kvs k y) j = if j = k then some y else valV kvs j := by
  unfold putK
  by_cases a : (kvs.any fun kv => decide (kv.1 = k)) = true
  · rw [if_pos a, valV_map]
    rw [valV_any] at a
    by_cases e : j = k
    · obtain ⟨x, hx⟩ := Option.isSome_iff_exists.mp a
      rw [if_pos e, e, hx, Option.map_some, if_pos rfl]
    · rw [if_neg e]
      cases valV kvs j with
      | none => rfl
      | some x => rw [Option.map_some, if_neg e]
  · rw [if_neg a]
    refine valV_snoc k j y kvs ?_
    rw [valV_any] at a
    cases q : valV kvs k with
    | none => rfl
    | some x => rw [q] at a; exact (a rfl).elim
theorem length_putK (kvs : List (κ × V)) (k : κ) (v : V) : (putK kvs k v).length ≤ kvs.length + 1 := by
  unfold putK
  split
  · rw [List.length_map]; omega
  · rw [List.length_append, List.length_cons, List.length_nil]; omega
theorem putK_new {kvs : List (κ × V)} {k : κ} (v : V) (h : valV kvs k = none) : putK kvs k v = kvs ++ [(k, v)] := by
  unfold putK
  rw [valV_any, h]
  exact if_neg (by decide)
theorem RelO.isSome_eq {o : Option V} {u : Option Value} (r : RelO o u) : o.isSome = u.isSome := by
  cases o with
  | none => cases u with
    | none => rfl
    | some _ => exact (show False from r).elim
  | some _ => cases u with
    | none => exact (show False from r).elim
    | some _ => rfl
theorem RelO.getD {o : Option V} {u : Option Value} {d : V} {d' : Value} (r : RelO o u) (rd : RelV d d') : RelV (o.getD d) (u.getD d') := by
  cases o with
  | none => cases u with
    | none => exact rd
    | some _ => exact (show False from r).elim
  | some _ => cases u with
    | none => exact (show False from r).elim
    | some _ => exact r
theorem KV.val {kvs : List (κ × V)} {vs : List (κ × Value)} (r : KV kvs vs) (k : κ) : RelO (valV kvs k) (valueAt vs k) := by
  unfold KV at r
  induction r with
  | nil => exact True.intro
  | @cons p q ps qs h t ih =>
    obtain ⟨h1, h2⟩ := h
    by_cases e : p.1 = k
    · have e' : q.1 = k := h1.symm.trans e
      have b : valueAt (q :: qs) k = some q.2 := by simp [valueAt, List.find?_cons, e']
      rw [valV_pos e, b]; exact h2
    · have e' : ¬ q.1 = k := fun z => e (h1.trans z)
      have b : valueAt (q :: qs) k = valueAt qs k := by simp [valueAt, List.find?_cons, e']
      rw [valV_neg e, b]; exact ih
theorem KV.any {kvs : List (κ × V)} {vs : List (κ × Value)} (r : KV kvs vs) (k : κ) : (kvs.any fun kv => decide (kv.1 = k)) = vs.any fun kv => decide (kv.1 = k) := by
  unfold KV at r
  induction r with
  | nil => rfl
  | cons h t ih => rw [List.any_cons, List.any_cons, ih, h.1]
theorem KV.repl {kvs : List (κ × V)} {vs : List (κ × Value)} (r : KV kvs vs) (k : κ) {y : V} {u : Value} (ry : RelV y u) :
    KV (kvs.map fun kv => if kv.1 = k then (kv.1, y) else kv) (vs.map fun kv => if kv.1 = k then (kv.1, u) else kv) := by
  unfold KV at r ⊢
  induction r with
  | nil => exact .nil
  | @cons p q ps qs h t ih =>
    rw [List.map_cons, List.map_cons]
    refine .cons ?_ ih
    obtain ⟨h1, h2⟩ := h
    by_cases e : p.1 = k
    · rw [if_pos e, if_pos (h1.symm.trans e)]; exact ⟨h1, ry⟩
    · rw [if_neg e, if_neg (fun z => e (h1.trans z))]; exact ⟨h1, h2⟩
theorem KV.put {kvs : List (κ × V)} {vs : List (κ × Value)} (r : KV kvs vs) (k : κ) {y : V} {u : Value} (ry : RelV y u) : KV (putK kvs k y) (stored vs k u) := by
  unfold putK stored
  rw [r.any k]
  by_cases e : (vs.any fun kv => decide (kv.1 = k)) = true
  · rw [if_pos e, if_pos e]; exact r.repl k ry
  · rw [if_neg e, if_neg e]; exact Paired.snoc r ⟨rfl, ry⟩
theorem KV.keys {kvs : List (κ × V)} {vs : List (κ × Value)} (r : KV kvs vs) : kvs.map (·.1) = vs.map (·.1) := by
  unfold KV at r
  induction r with
  | nil => rfl
  | cons h t ih => rw [List.map_cons, List.map_cons, ih, h.1]
theorem KV.length {kvs : List (κ × V)} {vs : List (κ × Value)} (r : KV kvs vs) : kvs.length = vs.length := Paired.length r
end
theorem kV_is {P : Program} {w : World} {k : Key} {u : Value} (r : RelV (kV k) u) : (mixKind P w).is k u = true := by
  cases k with
  | inl i => obtain ⟨t, e⟩ := (show ∃ t, u = Value.int i t from r); subst e; exact mixKind_int P w i t
  | inr x => obtain ⟨t, e⟩ := (show ∃ t, u = Value.str x t from r); subst e; exact mixKind_str P w x t
theorem items_are {P : Program} {w : World} : ∀ {ks : List Key} {us : List Value}, Vals (ks.map kV) us → ItemsAre (mixKind P w) ks us
  | [], _, r => by rw [List.map_nil] at r; cases r; exact .nil
  | k :: ks, _, r => by
    rw [List.map_cons] at r
    cases r with
    | cons h t => exact .cons (kV_is h) (items_are t)
abbrev KT (H : Hp) : List (List Key × V) → List (List Key × Addr × Value) → Prop := Paired fun p q => p.1 = q.1 ∧ H q.2.1 = some (.tup (p.1.map kV)) ∧ RelV p.2 q.2.2
theorem KT.val {H : Hp} {kvs : List (List Key × V)} {xs : List (List Key × Addr × Value)} (r : KT H kvs xs) (k : List Key) : RelO (valV kvs k) ((atKey xs k).map (·.2)) := by
  induction r with
  | nil => exact True.intro
  | @cons p q ps qs h t ih =>
    obtain ⟨h1, _, h2⟩ := h
    by_cases e : p.1 = k
    · have e' : q.1 = k := h1.symm.trans e
      have b : atKey (q :: qs) k = some q.2 := by simp [atKey, List.find?_cons, e']
      rw [valV_pos e, b]; exact h2
    · have e' : ¬ q.1 = k := fun z => e (h1.trans z)
      have b : atKey (q :: qs) k = atKey qs k := by simp [atKey, List.find?_cons, e']
      rw [valV_neg e, b]; exact ih
theorem KT.repl {H : Hp} {kvs : List (List Key × V)} {xs : List (List Key × Addr × Value)} (r : KT H kvs xs) (k : List Key) {y : V} {u : Value} (ry : RelV y u) :
    KT H (kvs.map fun kv => if kv.1 = k then (kv.1, y) else kv) (xs.map (putAt k u)) := by
  induction r with
  | nil => exact .nil
  | @cons p q ps qs h t ih =>
    rw [List.map_cons, List.map_cons]
    refine .cons ?_ ih
    obtain ⟨h1, h2, h3⟩ := h
    unfold putAt
    by_cases e : p.1 = k
    · rw [if_pos e, if_pos (h1.symm.trans e)]; exact ⟨h1, h2, ry⟩
    · rw [if_neg e, if_neg (fun z => e (h1.trans z))]; exact ⟨h1, h2, h3⟩
theorem KT.put {H : Hp} {kvs : List (List Key × V)} {xs : List (List Key × Addr × Value)} (r : KT H kvs xs) (k : List Key) {b : Addr} {y : V} {u : Value} (hb : H b = some (.tup (k.map kV))) (ry : RelV y u) :
    KT H (putK kvs k y) (storedH xs k b u) := by
  have e : (kvs.any fun kv => decide (kv.1 = k)) = (atKey xs k).isSome := by
    rw [valV_any, (r.val k).isSome_eq, Option.isSome_map]
  unfold putK storedH
  rw [e]
  by_cases q : (atKey xs k).isSome = true
  · rw [if_pos q, if_pos q]; exact r.repl k ry
  · rw [if_neg q, if_neg q]; exact Paired.snoc r ⟨rfl, hb, ry⟩
theorem KT.keeps {H H' : Hp} {kvs : List (List Key × V)} {xs : List (List Key × Addr × Value)} (r : KT H kvs xs) (ht : ∀ b ys, H b = some (.tup ys) → H' b = some (.tup ys)) : KT H' kvs xs :=
  Paired.mapP r fun _ _ z => ⟨z.1, ht _ _ z.2.1, z.2.2⟩
section
variable {P : Program} {w : World} {H : Hp} {h : Heap} {a : Addr}
theorem rd_of {u : HO} (ok : HOk P w H h) (e : Rd H a u) : ObjOk P w H h a u := e.ok ok
theorem dk_rd {kvs : List (Key × V)} (ok : HOk P w H h) (e : Rd H a (.dK kvs)) : kvs.length ≤ sizeLine ∧ (a == sysModules) = false ∧ ∃ vs, KV kvs vs ∧ h.DictOf (mixKind P w) a vs :=
  show ObjOk P w H h a (.dK kvs) from rd_of ok e
theorem dk_of {kvs : List (Key × V)} (ok : HOk P w H h) (e : H a = some (.dK kvs)) : kvs.length ≤ sizeLine ∧ (a == sysModules) = false ∧ ∃ vs, KV kvs vs ∧ h.DictOf (mixKind P w) a vs := dk_rd ok (.inl e)
theorem key_of {ks : List Key} (ok : HOk P w H h) (e : H a = some (.tup (ks.map kV))) : (tupleKind (mixKind P w)).is h ks a := by
  obtain ⟨_, its, r, o, h1, h2, n, h3⟩ := (show ObjOk P w H h a (.tup (ks.map kV)) from ok a _ e)
  exact ⟨o, its.toArray, n, h1, h2, h3, by simpa using items_are r⟩
theorem dt_rd {kvs : List (List Key × V)} (ok : HOk P w H h) (e : Rd H a (.dT kvs)) : kvs.length ≤ sizeLine ∧ (a == sysModules) = false ∧
    ∃ xs, KT H kvs xs ∧ h.DictOfH (tupleKind (mixKind P w)) a xs := by
  obtain ⟨z, y, xs, r, o, es, ep, h1, h2, h3, h4, h5⟩ := (show ObjOk P w H h a (.dT kvs) from rd_of ok e)
  refine ⟨z, y, xs, r, o, es, ep, h1, h2, h3, h4, fun x hx => ?_, h5⟩
  have all : ∀ {l : List (List Key × V)} {m : List (List Key × Addr × Value)}, KT H l m → ∀ x ∈ m, (tupleKind (mixKind P w)).is h x.1 x.2.1 := by
    intro l m q
    induction q with
    | nil => intro x hx; exact nomatch hx
    | @cons p q ps qs hq t ih =>
      intro x hx
      rcases List.mem_cons.mp hx with e | hx
      · subst e
        exact key_of ok (by rw [← hq.1]; exact hq.2.1)
      · exact ih x hx
  exact all r x hx
theorem dt_of {kvs : List (List Key × V)} (ok : HOk P w H h) (e : H a = some (.dT kvs)) : kvs.length ≤ sizeLine ∧ (a == sysModules) = false ∧
    ∃ xs, KT H kvs xs ∧ h.DictOfH (tupleKind (mixKind P w)) a xs := dt_rd ok (.inl e)
end
def DGet (H : Hp) (a : Addr) (y : V) (r : Option V) : Prop :=
  (∃ kvs k, Rd H a (.dK kvs) ∧ y = kV k ∧ r = valV kvs k) ∨ ∃ kvs k b, Rd H a (.dT kvs) ∧ y = .ref b ∧ H b = some (.tup (k.map kV)) ∧ r = valV kvs k
def DPut (H : Hp) (a : Addr) (y v : V) (H' : Hp) : Prop :=
  (∃ kvs k, H a = some (.dK kvs) ∧ y = kV k ∧ kvs.length < sizeLine ∧ H' = upd H a (.dK (putK kvs k v))) ∨
  ∃ kvs k b, H a = some (.dT kvs) ∧ y = .ref b ∧ H b = some (.tup (k.map kV)) ∧ kvs.length < sizeLine ∧ H' = upd H a (.dT (putK kvs k v))
theorem DGet.k {H : Hp} {a : Addr} {kvs : List (Key × V)} {k : Key} (e : H a = some (.dK kvs)) : DGet H a (kV k) (valV kvs k) := .inl ⟨kvs, k, .inl e, rfl, rfl⟩
theorem DPut.k {H : Hp} {a : Addr} {kvs : List (Key × V)} {k : Key} {v : V} (e : H a = some (.dK kvs)) (hl : kvs.length < sizeLine) : DPut H a (kV k) v (upd H a (.dK (putK kvs k v))) := .inl ⟨kvs, k, e, rfl, hl, rfl⟩
section
variable {X : Cx} {pins : List (Addr × Obj)} {σ : St} {H : Hp} {s : Shared} {a : Addr} {y v : V} {u r : Value} {o : Option V} {A : Around} {E : Value → Shared → Prop}
theorem Inv.big (I : Inv X pins σ H s) : sysModules < s.heap.objs.size := by
  have h : mainGlobals < s.heap.objs.size := (I.mod.glob.keeps I.bk).lt
  exact Nat.lt_trans (by decide) h
theorem d_getItem {Q : Value → Shared → Prop} (hu : A.units + 1 < cLine) (I : Inv X pins σ H s) (g : DGet H a y (some v)) (ry : RelV y u) (h : ∀ w' s', Inv X pins σ H s' → RelV v w' → Q w' s') :
    wpAny (model X.prog X.w) A (getItem (.ref a) u) Q E s := by
  rcases g with ⟨kvs, k, e, ey, l⟩ | ⟨kvs, k, b, e, ey, eb, l⟩
  · subst ey
    obtain ⟨z, hd, vs, rel, dd⟩ := dk_rd I.hok e
    obtain ⟨w', hw, rw'⟩ := RelO.some_of (v := v) (o := valueAt vs k) (by rw [l]; exact rel.val k)
    exact wpAny_getItem_of (kV_is ry) dd.mapOf hw (h w' _ (I.tok _) rw')
  · subst ey
    cases (show u = Value.ref b from ry)
    obtain ⟨z, hd, xs, rel, dd⟩ := dt_rd I.hok e
    obtain ⟨w', hw, rw'⟩ := RelO.some_of (v := v) (o := (atKey xs k).map (·.2)) (by rw [l]; exact rel.val k)
    obtain ⟨p, hp, hp2⟩ := Option.map_eq_some_iff.mp hw
    refine wpAny_getItem_heap (tupleKind_room_in1 hu) (key_of I.hok eb) dd hp ?_
    rw [hp2]
    exact h w' _ (I.tok _) rw'
theorem d_notIn {Q : Value → Shared → Prop} (hu : A.units + 1 < cLine) (I : Inv X pins σ H s) (g : DGet H a y o) (ry : RelV y u) (h : ∀ s', Inv X pins σ H s' → Q (.bool (!o.isSome)) s') :
    wpAny (model X.prog X.w) A (compareOp .NotIn u (.ref a)) Q E s := by
  rcases g with ⟨kvs, k, e, ey, l⟩ | ⟨kvs, k, b, e, ey, eb, l⟩
  · subst ey
    obtain ⟨z, hd, vs, rel, dd⟩ := dk_rd I.hok e
    refine wpAny_notIn_of (kV_is ry) hd dd.mapOf ?_
    rw [← (rel.val k).isSome_eq, ← l]
    exact h _ (I.tok _)
  · subst ey
    cases (show u = Value.ref b from ry)
    obtain ⟨z, hd, xs, rel, dd⟩ := dt_rd I.hok e
    refine wpAny_notIn_heap (tupleKind_room_in1 hu) (key_of I.hok eb) hd dd ?_
    have q := (rel.val k).isSome_eq
    rw [Option.isSome_map] at q
    rw [← q, ← l]
    exact h _ (I.tok _)
theorem d_write {h' : Heap} {t' : Nat} {ob : HO} (I : Inv X pins σ H s) (mu : Mut (H a)) (hs : Heap.SameBut a s.heap h') (he : ∃ q, h'.get? a = some q) (new : ObjOk X.prog X.w (upd H a ob) h' a ob) :
    Inv X pins σ (upd H a ob) { s with heap := h', toks := t' } :=
  I.write (x := a) (e := a) mu (.inl rfl) (fun b q hb z => (hs.2 b hb).trans z) he new
theorem dk_new {P : Program} {w : World} {H' : Hp} {h' : Heap} {kvs : List (Key × V)} {vs : List (Key × Value)} (z : kvs.length ≤ sizeLine) (hd : (a == sysModules) = false) (rel : KV kvs vs) (dd : h'.DictOf (mixKind P w) a vs) :
    ObjOk P w H' h' a (.dK kvs) := ⟨z, hd, vs, rel, dd⟩
theorem d_setItem {H' : Hp} {Q : Unit → Shared → Prop} (hu : A.units + 1 < cLine) (I : Inv X pins σ H s) (g : DPut H a y v H') (ry : RelV y u) (rv : RelV v r) (h : ∀ s', Inv X pins σ H' s' → Q () s') :
    wpAny (model X.prog X.w) A (setItem (.ref a) u r) Q E s := by
  rcases g with ⟨kvs, k, e, ey, l, eH⟩ | ⟨kvs, k, b, e, ey, eb, l, eH⟩
  · subst ey eH
    obtain ⟨z, hd, vs, rel, dd⟩ := dk_of I.hok e
    have hz : vs.length ≤ sizeLine := by rw [← rel.length]; exact z
    have hl : (putK kvs k v).length ≤ sizeLine := by have := length_putK kvs k v; omega
    refine wpAny_setItem_pairs (hsz := hz) (kV_is ry) dd fun h' dd' hs => h _ ?_
    have he : ∃ q, h'.get? a = some q := let ⟨q, _, _, hq, _⟩ := dd'; ⟨q, hq⟩
    exact d_write I (by rw [e]; exact True.intro) hs he (dk_new hl hd (rel.put k rv) dd')
  · subst ey eH
    cases (show u = Value.ref b from ry)
    obtain ⟨z, hd, xs, rel, dd⟩ := dt_of I.hok e
    have hz : xs.length ≤ sizeLine := by rw [← Paired.length rel]; exact z
    have hl : (putK kvs k v).length ≤ sizeLine := by have := length_putK kvs k v; omega
    refine wpAny_setItem_heap (hsz := hz) (tupleKind_room_in1 hu) (key_of I.hok eb) dd fun h' dd' hs => h _ ?_
    obtain ⟨q, es, ep, hq, h2, h3, h4, _, h5⟩ := dd'
    refine d_write I (by rw [e]; exact True.intro) hs ⟨q, hq⟩ ⟨hl, hd, _, (rel.put k eb rv).keeps fun c ys ec => ?_, q, es, ep, hq, h2, h3, h4, h5⟩
    rw [upd_ne (ne_of ec e (fun z => nomatch z))]
    exact ec
end
section
variable {X : Cx} {pins : List (Addr × Obj)} {σ : St} {H : Hp} {s : Shared} {a : Addr} {kvs : List (Key × V)} {k : Key} {u : Value} {A : Around} {E : Value → Shared → Prop}
theorem d_len {Q : Value → Shared → Prop} (I : Inv X pins σ H s) (e : Rd H a (.dK kvs)) (h : ∀ t s', Inv X pins σ H s' → Q (.int kvs.length t) s') : wpAny (model X.prog X.w) A (call (.builtin "len") [.ref a]) Q E s := by
  obtain ⟨z, hd, vs, rel, dd⟩ := dk_rd I.hok e
  refine call_len_dict hd dd (by rw [← rel.length]; rw [sizeLine_eq] at z; omega) ?_
  rw [← rel.length]
  exact h _ _ (I.tok _)
end
def NoSl (i : Expr) : Prop := ∀ ov iv, subscripted i false ov iv = operate [ov, iv] (getItem ov iv)
theorem subD_of {prog : Program} {w : World} {A : Around} {E : Value → Shared → Prop} {s : Shared} {env : Env} {value slice : Expr} {pos : Pos} {T id : String} {Q : Value → Shared → Prop}
    (hl : typeLookup (.type T) "__getitem__" = pure (some (.builtin id))) (hs : NoSl slice)
    (h : wpAny (model prog w) A (eval value env) (fun o s₁ => wpAny (model prog w) A (eval slice env) (fun i s₂ => s₂.TypeIs o T ∧ wpAny (model prog w) A (getItem o i) Q E s₂) E s₁) E s) :
    wpAny (model prog w) A (eval (.Subscript value slice pos) env) Q E s := by
  refine Subscript_ (wpAny_mono h (fun o s₁ h₁ => wpAny_mono h₁ (fun i s₂ h₂ => ?_) fun _ _ x => x) fun _ _ x => x)
  obtain ⟨hT, h₂⟩ := h₂
  unfold subscriptTail
  refine wpAny_bind ?_
  rw [getitemInPython_of_ne hT.not_modules]
  refine wpAny_bind (wpAny_specialOf hT hl ?_)
  have fin : wpAny (model prog w) A (subscripted slice false o i) (fun r s₃ => wpAny (model prog w) A (letTemporaryGo value o r >>= fun _ => pure r) Q E s₃) E s₂ := by
    rw [hs o i]
    exact wpAny_operating (wpAny_mono h₂ (fun r s₃ h₃ => wpAny_bind (wpAny_letTemporaryGo (wpAny_pure h₃))) fun _ _ x => x)
  first
    | exact wpAny_pure (wpAny_bind fin)
    | exact wpAny_bind (wpAny_pure (wpAny_bind fin))
    | exact wpAny_bind fin
theorem dict_typeIs {X : Cx} {pins : List (Addr × Obj)} {σ : St} {H : Hp} {s : Shared} {a : Addr} {y : V} {o : Option V} (I : Inv X pins σ H s) (g : DGet H a y o) : s.TypeIs (.ref a) "dict" := by
  rcases g with ⟨kvs, k, e, _, _⟩ | ⟨kvs, k, b, e, _, _, _⟩
  · obtain ⟨_, _, vs, _, dd⟩ := dk_rd I.hok e
    exact dd.typeIs
  · obtain ⟨_, _, xs, _, dd⟩ := dt_rd I.hok e
    exact dd.typeIs
def tDGet (td ty : TE) : TE := fun σ H Q => td σ H fun x H1 => ty σ H1 fun y H2 => ∃ a v, x = .ref a ∧ DGet H2 a y (some v) ∧ Q v H2
section
variable {X : Cx} {o i e value : Expr} {pos pos' tpos : Pos} {td ty tv : TE}
theorem pe_dget (hu : X.A.units + 1 < cLine) (ho : PE X o td) (hi : PE X i ty) (hs : NoSl i) : PE X (.Subscript o i pos) (tDGet td ty) := by
  intro pins s σ H Q I h
  refine subD_of PySem.F.slot_dict_getitem.lookup hs (thn (ho pins s σ H _ I h) fun u s1 ⟨x, H1, I1, rx, q1⟩ => thn (hi pins s1 σ H1 _ I1 q1) fun iv s2 ⟨y, H2, I2, ry, a, v, ex, g, q2⟩ => ?_)
  subst ex
  obtain rfl : u = Value.ref a := rx
  exact ⟨dict_typeIs I2 g, d_getItem hu I2 g ry fun w' s3 I3 rw' => ⟨v, H2, I3, rw', q2⟩⟩
end
theorem dk_empty {P : Program} {w : World} {H : Hp} (h : Heap) (hb : sysModules < h.objs.size) : ObjOk P w H (h.push { cls := .type "dict", data := .dict #[] }) h.objs.size (.dK []) :=
  ⟨Nat.zero_le _, beq_eq_false_iff_ne.mpr (Ne.symm (Nat.ne_of_lt hb)), [], .nil, Heap.DictOf.new h⟩
def tDNewK : TE := fun _ H Q => ∀ p, H p = none → Q (.ref p) (upd H p (.dK []))
section
variable {X : Cx} {pos : Pos}
theorem pe_dnewK : PE X (.Dict [] [] pos) tDNewK := fun pins s σ H Q I h =>
  wpAny_Dict_empty ⟨.ref s.heap.objs.size, _, I.laid (a := s.heap.objs.size) (o := .dK []) (t' := s.toks) (fun _ _ q => Heap.get?_push_of_some _ q) (Nat.le_refl _) (dk_empty s.heap I.big), rfl, h _ (I.hok.fresh (Nat.le_refl _))⟩
end
structure M1 (X : Cx) (o : Expr) (m : Str) (apos : Pos) (e : Expr) (cpos : Pos) : Prop where
  base : attributeBase o m X.env (eval o X.env) = eval o X.env
  few : ((backTo cpos (starEach [e] X.env)).all (fun x => !x.1) && (backToKw cpos (keywordEach [] X.env)).all (fun x => x.1.isSome)
    && decide (([e] : List Expr).length + ([] : List Keyword).length + (if ([] : List Keyword).isEmpty then 0 else 1) < 30)) = true
  line : (apos.endLine == cpos.line) = true
  trees : backTo cpos (starEach [e] X.env) = [(false, eval e X.env)]
def IsD (H : Hp) (a : Addr) : Prop := (∃ kvs, Rd H a (.dK kvs)) ∨ ∃ kvs, Rd H a (.dT kvs)
theorem isD_at {X : Cx} {pins : List (Addr × Obj)} {σ : St} {H : Hp} {s : Shared} {a : Addr} (I : Inv X pins σ H s) (d : IsD H a) :
    s.TypeIs (.ref a) "dict" ∧ (∀ b, Value.ref a = .ref b → ∃ ob, s.heap.get? b = some ob ∧ ob.dict = none) ∧ (a == sysModules) = false := by
  rcases d with ⟨kvs, e⟩ | ⟨kvs, e⟩
  · obtain ⟨_, hd, vs, _, dd⟩ := dk_rd I.hok e
    refine ⟨dd.typeIs, fun b q => ?_, hd⟩
    cases q
    obtain ⟨ob, _, _, h1, h2, _⟩ := dd
    exact ⟨ob, h1, h2.2.1⟩
  · obtain ⟨_, hd, xs, _, dd⟩ := dt_rd I.hok e
    refine ⟨dd.typeIs, fun b q => ?_, hd⟩
    cases q
    obtain ⟨ob, _, _, h1, h2, _⟩ := dd
    exact ⟨ob, h1, h2.2.1⟩
section
variable {X : Cx} {pins : List (Addr × Obj)} {σ : St} {H : Hp} {s : Shared} {a : Addr} {y d : V} {u r : Value} {o : Option V} {A : Around} {E : Value → Shared → Prop}
theorem d_get1 {Q : Value → Shared → Prop} (hu : A.units + 1 < cLine) (I : Inv X pins σ H s) (g : DGet H a y o) (ry : RelV y u) (h : ∀ w' s', Inv X pins σ H s' → RelV (o.getD .non) w' → Q w' s') :
    wpAny (model X.prog X.w) A (call (.builtin "dict.get") [.ref a, u]) Q E s := by
  rcases g with ⟨kvs, k, e, ey, l⟩ | ⟨kvs, k, b, e, ey, eb, l⟩
  · subst ey
    obtain ⟨z, hd, vs, rel, dd⟩ := dk_rd I.hok e
    refine call_meetsIn PySem.F.slot_dict_get dd.typeIs PySem.F.entry_dict_get (PySem.F.args_dict_get_2 _ _) (meets_dict_get (mixKind X.prog X.w) a (kV_is ry) hd) ⟨_, dd.mapOf, h _ _ (I.tok _) ?_⟩
    rw [l]
    exact (rel.val k).getD rfl
  · subst ey
    cases (show u = Value.ref b from ry)
    obtain ⟨z, hd, xs, rel, dd⟩ := dt_rd I.hok e
    refine call_meetsIn PySem.F.slot_dict_get dd.typeIs PySem.F.entry_dict_get (PySem.F.args_dict_get_2 _ _) (meetsH_dict_get (tupleKind (mixKind X.prog X.w)) a b hd) ⟨tupleKind_room_in1 hu, k, xs, key_of I.hok eb, dd, h _ _ (I.tok _) ?_⟩
    rw [l]
    exact (rel.val k).getD rfl
end
def tDGet1 (td ty : TE) : TE := fun σ H Q => td σ H fun x H1 => ∃ a, x = .ref a ∧ IsD H1 a ∧ ty σ H1 fun y H2 => ∃ o, DGet H2 a y o ∧ Q (o.getD .non) H2
section
variable {X : Cx} {o e f : Expr} {apos cpos : Pos} {td ty tx : TE}
theorem pe_dget1 (hu : X.A.units + 1 < cLine) (ho : PE X o td) (he : PE X e ty) (m : M1 X o "get" apos e cpos) : PE X (.Call (.Attribute o "get" apos) [e] [] cpos) (tDGet1 td ty) := by
  intro pins s σ H Q I h
  refine wpAny_Call_method m.base m.few m.line PySem.F.plainAttrs_dict PySem.F.slot_dict_get PySem.F.type_dict_get (thn (ho pins s σ H _ I h) fun u s1 ⟨x, H1, I1, rx, a, ex, d, q1⟩ => ?_)
  subst ex
  obtain rfl : u = Value.ref a := rx
  obtain ⟨t1, t2, _⟩ := isD_at I1 d
  refine ⟨t1, t2, ?_⟩
  rw [m.trees]
  refine Calls.callWith_builtin rfl (Calls.evalArgs_plain (Calls.spliced_cons (thn (he pins s1 σ H1 _ I1 q1) fun iv s2 ⟨y, H2, I2, ry, ov, g, q2⟩ => Calls.spliced_nil ?_)))
  exact d_get1 hu I2 g ry fun w' s3 I3 rw' => ⟨_, H2, I3, rw', q2⟩
end
section
variable {X : Cx} {pins : List (Addr × Obj)} {σ : St} {H : Hp} {s : Shared} {a : Addr} {kvs : List (Key × V)} {A : Around} {E : Value → Shared → Prop}
end
section
variable {X : Cx} {pins : List (Addr × Obj)} {σ : St} {H : Hp} {s : Shared} {a : Addr} {y : V} {u : Value} {A : Around} {E : Value → Shared → Prop}
end
end L2
namespace L2
open PySem PySem.Spec PyProof.Rows
section
variable {X : Cx}
def rNotInD : R2 := fun x y H Q => ∃ a o, y = .ref a ∧ DGet H a x o ∧ Q (.bl (!o.isSome)) H
theorem kNotInD (hu : X.A.units + 64 < cLine) : OpR X (compareOp .NotIn) rNotInD := by
  intro pins s σ H x y v u Q I rx ry h
  obtain ⟨a, o, rfl, g, q⟩ := h
  cases ry
  exact d_notIn (by omega) I g rx fun s' I' => ⟨.bl (!o.isSome), H, I', rfl, q⟩
def rSetD : V → V → V → Hp → (Hp → Prop) → Prop := fun o i v H Q => ∃ a H', o = .ref a ∧ DPut H a i v H' ∧ Q H'
theorem set_dict (hu : X.A.units + 64 < cLine) : PSet X rSetD := by
  intro pins s σ H o i v ov iv u Q I ro ri rv h
  obtain ⟨a, H', rfl, g, q⟩ := h
  cases ro
  exact d_setItem (by omega) I g ri rv fun s' I' => ⟨H', I', q⟩
end
end L2
namespace PySem
namespace ZT
section
variable {prog : Program} {w : World} {A : Around} {E : Value → Shared → Prop} {s : Shared}
end
end ZT
end PySem
namespace L2
open PySem PySem.Spec PyProof.Rows
section
variable {X : Cx} {pins : List (Addr × Obj)} {σ : St} {H : Hp} {s : Shared} {a : Addr} {xs ys : List V} {t : Bool}
end
section
variable {X : Cx} {K : PySem.W.Frag} {elts : List Expr} {kt : Nat} {pt : Pos}
end
end L2
namespace L2
open PySem PySem.Spec PyProof.Rows
section
variable {X : Cx} {tg : Expr}
end
end L2
namespace PySem
open PyProof.Rows L2
namespace F
end F
section
variable {prog : Program} {w : World} {A : Around} {E : Value → Shared → Prop} {s : Shared}
end
end PySem
namespace L2
open PySem PySem.Spec PyProof.Rows
section
variable {X : Cx} {tg : Expr}
end
end L2
namespace PySem
open PyProof.Rows
namespace F
end F
section
variable {prog : Program} {w : World} {A : Around} {E : Value → Shared → Prop} {s : Shared}
end
end PySem
namespace PySem
open PyProof.Rows
namespace F
end F
section
variable {prog : Program} {w : World} {A : Around} {E : Value → Shared → Prop} {s : Shared}
end
end PySem
namespace PySem
section
variable {prog : Program} {w : World} {A : Around} {E : Value → Shared → Prop} {s : Shared}
end
end PySem
namespace L2
open PySem PySem.Spec PyProof.Rows
section
variable {X : Cx} {K : PySem.W.Frag} {pins : List (Addr × Obj)} {σ : St} {H : Hp} {s : Shared}
end
end L2
namespace L2
open PySem PySem.Spec PyProof.Rows
section
variable {X : Cx} {K : PySem.W.Frag}
end
end L2
namespace L2
open PySem PySem.Spec PyProof.Rows
def eqVs (xs ys : List V) : Bool := (List.range (min xs.length ys.length)).all (fun j => eqV ((xs[j]?).getD .non) ((ys[j]?).getD .non)) && xs.length == ys.length
section
variable {X : Cx} {K : PySem.W.Frag} {pins : List (Addr × Obj)} {σ : St} {H : Hp} {s : Shared}
theorem flat_at {A : Around} {xs ys : List V} {us vs : List Value} (r : Vals xs us) (r2 : Vals ys vs) (fx : xs.all flatV = true) (fy : ys.all flatV = true) (j : Nat) (h1 : j < us.toArray.size) (h2 : j < vs.toArray.size) :
    SeqAt.EqAt A s us.toArray[j] vs.toArray[j] (eqV ((xs[j]?).getD .non) ((ys[j]?).getD .non)) := by
  obtain ⟨x, hx, rx⟩ := vals_at2 r h1
  obtain ⟨y, hy, ry⟩ := vals_at2 r2 h2
  rw [hx, hy]
  exact eqAt_V rx ry (List.all_eq_true.mp fx x (List.mem_of_getElem? hx)) (List.all_eq_true.mp fy y (List.mem_of_getElem? hy))
def rNeLD (K : PySem.W.Frag) : R2 := fun x y H Q => ∃ a b xs ys n, x = .ref a ∧ y = .ref b ∧ SqL K H a xs ∧ SqL K H b ys ∧ xs.length = ys.length ∧ n ≤ 50 ∧ (∀ (j : Nat) u v, xs[j]? = some u → ys[j]? = some v → Dq K H n u v) ∧ Q (.bl false) H
theorem op_neLD (hu : X.A.units + 64 < cLine) : OpR X (compareOp .NotEq) (rNeLD X.K) := by
  intro pins s σ H x y v u Q I rx ry h
  obtain ⟨a, b, xs, ys, n, rfl, rfl, ha, hb, hl, hn, hd, q⟩ := h
  cases rx; cases ry
  obtain ⟨its, r, pl, _⟩ := I.list ha
  obtain ⟨its2, r2, pl2, _⟩ := I.list hb
  have hl2 : its.length = its2.length := by rw [← r.length, ← r2.length]; exact hl
  have h2 : X.A.in1.units + n < cLine := by
    show X.A.units + 1 + n < cLine
    exact Nat.lt_of_le_of_lt (by omega) hu
  refine SeqAt.RcNeAt.lists (e := fun _ => true) pl.isList pl2.isList (by simpa using hl2) (Nat.lt_of_le_of_lt (Nat.le_add_right _ _) hu) (fun j h1 h2' => ?_) X.prog X.w X.xe _ ⟨.bl false, H, I, ?_, q⟩
  · obtain ⟨x, hx, rx⟩ := vals_at2 r h1
    obtain ⟨y, hy, ry⟩ := vals_at2 r2 h2'
    exact eqAt_dq I n X.A.in1 x y _ _ h2 (hd j x y hx hy) rx ry
  · have : ((List.range its.toArray.size).all fun _ => true) = true := by simp
    rw [this]; rfl
theorem kNeLD (hu : X.A.units + 64 < cLine) (hK : X.K = K := by rfl) : OpR X (compareOp .NotEq) (rNeLD K) := by subst hK; exact op_neLD hu
end
end L2
namespace L2
open PySem PySem.Spec PyProof.Rows
section
variable {X : Cx}
end
end L2
namespace L2
open PySem PySem.Spec PyProof.Rows
section
variable {X : Cx} {K : PySem.W.Frag}
end
end L2
namespace PySem
open PyProof.Rows
section
variable {prog : Program} {w : World} {A : Around} {E : Value → Shared → Prop} {s : Shared}
theorem ints_pt : ∀ (vs : List Value) (ns : List Int), vs.length = ns.length → (∀ (j : Nat) (v : Value), vs[j]? = some v → ∃ t, v = .int (ns.getD j 0) t) → IntsAre vs ns
  | [], [], _, _ => .nil
  | [], _ :: _, h, _ => by cases h
  | _ :: _, [], h, _ => by cases h
  | v :: vs, n :: ns, h, q => by
    obtain ⟨t, e⟩ := q 0 v rfl
    have e' : v = .int n t := e
    subst e'
    exact .cons n t (ints_pt vs ns (by simpa using h) fun j u hu => q (j + 1) u hu)
theorem sortedHeap_kept {h : Heap} {a b : Addr} {o : Obj} {vs : List Value} {out : Array Value} (e : h.get? b = some o) (n : b ≠ a) : (sortedHeap h a vs out).get? b = some o := by
  unfold sortedHeap
  have h1 : (h.update a (Obj.mapSeq fun _ => #[])).get? b = some o := (Heap.get?_update_other _ _ (Ne.symm n)).trans e
  exact (Heap.get?_update_other _ _ (Ne.symm n)).trans (Heap.get?_push_of_some _ (Heap.get?_push_of_some _ h1))
theorem sortedHeap_self {h : Heap} {a : Addr} {vs : List Value} {out : Array Value} {n : Nat} (e : h.get? a = some { cls := .type "list", data := .seq vs.toArray n }) : ∃ n', (sortedHeap h a vs out).get? a = some { cls := .type "list", data := .seq out n' } := by
  unfold sortedHeap
  have h1 := Heap.get?_update_self (Obj.mapSeq (fun _ => (#[] : Array Value))) e rfl
  have h2 := Heap.get?_push_of_some (seqObj "list" #[] 0) (Heap.get?_push_of_some (seqObj "tuple" vs.toArray 0) h1)
  exact ⟨_, Heap.get?_update_self (Obj.mapSeq (fun _ => out)) h2 rfl⟩
theorem call_sorted_dict {K : Type} [DecidableEq K] {knd : KeyKind prog w K} {Q : Value → Shared → Prop} (hh : A.handled = none) {d : Addr} {kvs : List (K × Value)} {ep : Nat} {ns : List Int} (hd : (d == sysModules) = false) (hD : s.heap.DictAt knd d kvs ep) (hl : kvs.length = ns.length)
    (hI : ∀ (j : Nat) (k : K) (x v : Value), kvs[j]? = some (k, x) → knd.is k v = true → ∃ t, v = .int (ns.getD j 0) t) (h64 : ns.length < 64)
    (hQ : ∀ (h1 h' : Heap) (tk : Nat) (out : Array Value) (ns' : List Int) (n : Nat), (∀ b o, s.heap.get? b = some o → h1.get? b = some o) → (∀ b o, h1.get? b = some o → h'.get? b = some o) → h'.get? h1.objs.size = some { cls := .type "list", data := .seq out n } → IntsAre out.toList ns' → ns'.Perm ns → List.Pairwise (· ≤ ·) ns' → Q (.ref h1.objs.size) { s with heap := h', toks := tk }) :
    wpAny (model prog w) A (call (.builtin "sorted") [.ref d]) Q E s := by
  have hcn : checkBuiltinCall "sorted" ⟨[.ref d], []⟩ = pure () := by kernel_rfl
  have zl : (64 : Nat) ≤ sizeLine := by decide
  refine wpAny_call (codeAny_call_builtin plain_sorted entry_sorted (wpAny_of_eq hcn ?_))
  unfold Builtin.sorted
  refine wpAny_bind (m := checkCount "sorted" 1 1 1) (wpAny_of_eq (show checkCount "sorted" 1 1 1 = pure () by first | rfl | kernel_rfl) ?_)
  refine wpAny_bind (m := collect (.ref d)) (W.kdu_collect (A := A.in1) (W.kdl_dict (knd := knd) (kvs := kvs) (ep := ep) hd) hh hD (by omega) fun h1 tk acc hk1 hacc => ?_)
  obtain ⟨a1, a2⟩ := hacc
  have hlen : acc.toList.length = ns.length := by rw [Array.length_toList, a1, hl]
  have hints : IntsAre acc.toList ns := ints_pt acc.toList ns hlen fun j v hv => by
    obtain ⟨k, x, e1, e2⟩ := a2 j v (by simpa using hv)
    exact hI j k x v e1 e2
  refine wpAny_bind (wpAny_newList ?_ (by omega))
  have hS : (h1.push { cls := .type "list", data := .seq acc.toList.toArray }).get? h1.objs.size = some { cls := .type "list", data := .seq acc.toList.toArray } := Heap.get?_push_size _ rfl
  have ty : Shared.TypeIs { s with heap := h1.push { cls := .type "list", data := .seq acc.toList.toArray }, toks := tk } (.ref h1.objs.size) "list" := ⟨_, hS, rfl⟩
  refine wpAny_bind (wpAny_holding (wpAny_call_entry slot_list_sort ty entry_list_sort (list_sort_tree (n := 0) hS hints (by omega) fun out ns' i1 i2 i3 => ⟨.none, rfl, ?_⟩) (args_list_sort _)))
  obtain ⟨n', hn'⟩ := sortedHeap_self (out := out) hS
  exact wpAny_pure (hQ h1 _ _ _ ns' n' hk1 (fun b o e1 => sortedHeap_kept (Heap.get?_push_of_some _ e1) (Nat.ne_of_lt (Heap.lt_size e1))) hn' i1 i2 i3)
end
end PySem
namespace L2
open PySem PySem.Spec PyProof.Rows
theorem vals_of_ints : ∀ {us : List Value} {ns : List Int}, IntsAre us ns → Vals (ns.map V.int) us
  | _, _, .nil => .nil
  | _, _, .cons n t h => .cons ⟨t, rfl⟩ (vals_of_ints h)
section
variable {X : Cx}
theorem k_sortedD (hc : X.calm = true) : CallR X (.builtin "sorted") (fun xs H Q => ∃ (a : Addr) (kvs : List (Key × V)) (ns : List Int), xs = [.ref a] ∧ H a = some (.dK kvs) ∧ kvs.map (·.1) = ns.map Sum.inl ∧ ns.length < 64 ∧ ∀ l ns', H l = none → ns'.Perm ns → List.Pairwise (· ≤ ·) ns' → Q (.ref l) (upd H l (.lst (ns'.map V.int)))) := by
  intro pins s σ H xs us Q I r h
  obtain ⟨a, kvs, ns, rfl, ha, hk, hn, q⟩ := h
  obtain ⟨u, rfl, ru⟩ := vals1 r
  cases ru
  obtain ⟨z, hd, vs, rel, dd⟩ := dk_of I.hok ha
  have hkeys := rel.keys
  have hlen := rel.length
  have hkl : kvs.length = ns.length := by
    have := congrArg List.length hk
    simpa using this
  have zl : (64 : Nat) ≤ sizeLine := by decide
  obtain ⟨o, es, ep, ho, hx, hdt, hko, hp, hnd⟩ := dd
  refine call_sorted_dict (knd := mixKind X.prog X.w) (kvs := vs) (ep := ep) (ns := ns) (I.ok.hd hc) hd ⟨o, es, ho, hx, hdt, hko, hp, hnd⟩ (by omega) ?_ hn ?_
  · intro j k x v e1 e2
    have hj : j < ns.length := by
      have := (List.getElem?_eq_some_iff.mp e1).1
      omega
    have e3 : (vs.map (·.1))[j]? = some k := by rw [List.getElem?_map, e1]; rfl
    rw [← hkeys, hk, List.getElem?_map, List.getElem?_eq_getElem hj] at e3
    have e4 : (Sum.inl ns[j] : Key) = k := Option.some.inj e3
    subst e4
    have e5 : Value.isInt ns[j] v = true := e2
    obtain ⟨t, e6⟩ := Value.isInt_shape e5
    exact ⟨t, by rw [e6]; simp [List.getD_eq_getElem?_getD, List.getElem?_eq_getElem hj]⟩
  · intro h1 h' tk out ns' n k1 k2 hl i1 i2 i3
    have I1 : Inv X pins σ H { s with heap := h1 } := I.kept (t' := s.toks) k1
    have hz : (ns'.map V.int).length ≤ sizeLine := by rw [List.length_map, i2.length_eq]; omega
    exact ⟨.ref h1.objs.size, _, I1.laid (t' := tk) k2 (Nat.le_refl _) (show ObjOk X.prog X.w _ h' _ (.lst _) from ⟨hz, out.toList, n, vals_of_ints i1, by simpa using hl⟩), rfl, q _ ns' (I1.hok.fresh (Nat.le_refl _)) i2 i3⟩
end
end L2
namespace PySem
open AutoSeq1 (wpAny_loadPart')
theorem extendTupleAt (l b : Addr) (items items2 : Array Value) (n n2 : Nat) (dd2 : Option Addr) (sl2 : Array (Option Value)) (hlong : ¬ (!items.isEmpty && Builtin.List.listTooLong (items.size + items2.size)) = true) :
    Meets (Builtin.«list.extend» ⟨[.ref l, .ref b], []⟩) (fun _ R s => s.heap.get? l = some { cls := .type "list", data := .seq items n } ∧ s.heap.get? b = some { cls := .type "tuple", dict := dd2, data := .seq items2 n2, slots := sl2 } ∧ items.size + items2.size ≤ sizeLine ∧
      R (.ok (.ret .none)) { s with heap := s.heap.update l (Obj.mapSeq fun x => x ++ items2) }) := by
  refine .of_wp fun prog w A R s h => ?_
  obtain ⟨hp, g, d, tk, os⟩ := s
  obtain ⟨hl, hb, hz, h⟩ := h
  have e0 : (!items.isEmpty && Builtin.List.listTooLong (items.size + items2.size)) = false := by simpa using hlong
  have hpl : (Obj.mapSeq (fun x => x ++ items2) { cls := .type "list", data := .seq items n }).data.pastItsLine = none := by
    show (if (items ++ items2).size > sizeLine + 1 then some "sequence:memory" else none) = none
    have h0 : ¬ (items ++ items2).size > sizeLine + 1 := by rw [Array.size_append]; omega
    rw [if_neg h0]
  wp_walk using wpAny_loadPart' hl, wpAny_loadPart' hb
  rw [hpl]
  exact wpAny_pure (wpAny_pure ⟨_, rfl, h⟩)
end PySem
namespace L2
open PySem PySem.Spec PyProof.Rows
section
variable {X : Cx} {K : PySem.W.Frag} {tg : Expr}
def rExtendT (K : PySem.W.Frag) : V → List V → Hp → VK → Prop := fun x vs H Q => ∃ l b xs zs, x = .ref l ∧ vs = [.ref b] ∧ H l = some (.lst xs) ∧ SqT K H b zs ∧ xs.length + zs.length ≤ sizeLine ∧ Q .non (upd H l (.lst (xs ++ zs)))
theorem mt_extendT : MtM X "list.extend" (rExtendT X.K) := by
  intro pins s σ H x vs v us Q I rx rv h
  obtain ⟨l, b, xs, zs, rfl, rfl, hH, hB, hz, q⟩ := h
  cases rx
  obtain ⟨u, rfl, ru⟩ := rv.one
  cases ru
  obtain ⟨z, its, n, r, hl, e⟩ := I.lstM hH
  obtain ⟨its2, r2, ⟨⟨c2, d2, dt2, sl2⟩, e2, hc2, n2, hd2⟩, hl2⟩ := I.tuple hB
  replace hc2 : c2 = .type "tuple" := hc2
  replace hd2 : dt2 = .seq its2.toArray n2 := hd2
  subst hc2 hd2
  have l1 := r.length
  have l2 := r2.length
  have hsz : its.toArray.size + its2.toArray.size ≤ sizeLine := by rw [List.size_toArray, List.size_toArray]; omega
  have hlong : ¬ (!its.toArray.isEmpty && Builtin.List.listTooLong (its.toArray.size + its2.toArray.size)) = true := by
    rw [notLongL hsz, Bool.and_false]
    exact Bool.false_ne_true
  refine call_meets F.slot_list_extend ⟨_, e, rfl⟩ F.entry_list_extend (F.args_list_extend_2 _ _)
    (extendTupleAt l b its.toArray its2.toArray n n2 d2 sl2 hlong) ⟨e, e2, hsz, ?_⟩
  refine ⟨.non, _, I.lset (its' := its ++ its2) hH e (by simp) (r.append r2) ?_, rfl, q⟩
  rw [List.length_append]
  omega
theorem k_extendT (hK : X.K = K := by rfl) : MtM X "list.extend" (rExtendT K) := by subst hK; exact mt_extendT
def iAny (K : PySem.W.Frag) (tl : TE) : TI := fun σ H R => tl σ H fun x H1 => (∃ a, x = .ref a ∧ (∃ xs, SqL K H1 a xs) ∧ R (Itl K a) H1) ∨ ∃ a, x = .ref a ∧ (∃ xs, SqT K H1 a xs) ∧ R (Itt K a) H1
theorem pi_any {l : Expr} {tl : TE} (hl : PE X l tl) : PI X tg l (iAny X.K tl) := by
  intro pins s σ H R I h
  refine thn (hl pins s σ H _ I h) fun v s1 ⟨x, H1, I1, r1, q1⟩ => ?_
  rcases q1 with ⟨a, e, ⟨xs, hq⟩, q⟩ | ⟨a, e, ⟨xs, hq⟩, q⟩
  · subst e
    cases r1
    obtain ⟨its, rv, p, hz⟩ := I1.list hq
    refine wpAny_pyIter_list p.isList ?_
    refine ⟨s1.heap.objs.size, [s1.heap.objs.size], _, _, H1, rfl, I1.kept (t' := s1.toks) fun b o e => Heap.get?_push_of_some _ e, turn_list a _, ⟨_, Heap.get?_push_size _ rfl, rfl, rfl⟩, fun b hb => ?_, q⟩
    have e : b = s1.heap.objs.size := by simpa using hb
    subst e
    exact I1.fpOk (Nat.le_refl _) (I1.hok.fresh (Nat.le_refl _))
  · subst e
    cases r1
    obtain ⟨its, rv, p, hz⟩ := I1.tuple hq
    refine wpAny_pyIter_tuple (show s1.heap.IsTuple a its.toArray from p) ?_
    refine ⟨s1.heap.objs.size, [s1.heap.objs.size], _, _, H1, rfl, I1.kept (t' := s1.toks) fun b o e => Heap.get?_push_of_some _ e, turn_tuple a _, ⟨_, Heap.get?_push_size _ rfl, rfl, rfl⟩, fun b hb => ?_, q⟩
    have e : b = s1.heap.objs.size := by simpa using hb
    subst e
    exact I1.fpOk (Nat.le_refl _) (I1.hok.fresh (Nat.le_refl _))
theorem k_iany {l : Expr} {tl : TE} (hl : PE X l tl) (hK : X.K = K := by rfl) : PI X tg l (iAny K tl) := by subst hK; exact pi_any hl
end
end L2
namespace L2
open PySem PySem.Spec PyProof.Rows
theorem k_lenD {X : Cx} : CallR X (.builtin "len") (fun xs H Q => ∃ d kvs, xs = [V.ref d] ∧ Rd H d (.dK kvs) ∧ Q (.int (kvs.length : Nat)) H) := fun pins s σ H xs us Q I r h => by
  obtain ⟨d, kvs, rfl, hd, q⟩ := h
  obtain ⟨u, rfl, ru⟩ := vals1 r
  cases ru
  exact d_len I hd fun t s' I2 => ⟨.int (kvs.length : Nat), H, I2, ⟨t, rfl⟩, q⟩
end L2
namespace L2
open PySem PySem.Spec PyProof.Rows
def absU : Value → V
  | .none => .non
  | .bool b => .bl b
  | .int i _ => .int i
  | .ref a => .ref a
  | _ => .non
def nvV : V → Bool
  | .non => true
  | .bl _ => true
  | .int _ => true
  | .ref _ => true
  | _ => false
theorem absU_of {y : V} {u : Value} (r : RelV y u) (f : nvV y = true) : absU u = y := by
  cases y with
  | non => cases r; rfl
  | bl b => cases r; rfl
  | int i => obtain ⟨t, rfl⟩ := r; rfl
  | ref a => cases r; rfl
  | _ => exact absurd (show false = true from f) Bool.false_ne_true
theorem any_absU (e : V → Bool) : ∀ {xs : List V} {us : List Value}, Vals xs us → xs.all nvV = true → us.any (fun u => e (absU u)) = xs.any e
  | _, _, .nil, _ => rfl
  | y :: xs, u :: us, .cons r t, f => by
    rw [List.all_cons, Bool.and_eq_true] at f
    rw [List.any_cons, List.any_cons, absU_of r f.1, any_absU e t f.2]
theorem vals_memU : ∀ {xs : List V} {us : List Value}, Vals xs us → ∀ u ∈ us, ∃ y ∈ xs, RelV y u
  | _, _, .nil => fun u hu => by cases hu
  | y :: xs, u :: us, .cons r t => fun u' hu => by
    rcases List.mem_cons.mp hu with rfl | hu
    · exact ⟨y, List.mem_cons_self .., r⟩
    · obtain ⟨y', h1, h2⟩ := vals_memU t u' hu
      exact ⟨y', List.mem_cons_of_mem _ h1, h2⟩
def TIt (K : PySem.W.Frag) (H : Hp) (a : Addr) (xs : List V) (e : V → Bool) (y : V) : Prop :=
  ((y = .non ∨ (∃ b, y = .bl b) ∨ ∃ i, y = .int i) ∧ e y = false) ∨ ∃ b zs, y = .ref b ∧ SqT K H b zs ∧ zs.all flatV = true ∧ b ≠ a ∧ e y = eqVs zs xs
theorem TIt.nv {K : PySem.W.Frag} {H : Hp} {a : Addr} {xs : List V} {e : V → Bool} {y : V} (h : TIt K H a xs e y) : nvV y = true := by
  rcases h with ⟨rfl | ⟨b, rfl⟩ | ⟨i, rfl⟩, _⟩ | ⟨b, zs, rfl, _⟩ <;> rfl
section
variable {X : Cx} {K : PySem.W.Frag} {pins : List (Addr × Obj)} {σ : St} {H : Hp} {s : Shared}
def rInTL (K : PySem.W.Frag) : R2 := fun x y H Q => ∃ (a p : Addr) (xs ys : List V) (e : V → Bool), x = .ref a ∧ y = .ref p ∧ SqT K H a xs ∧ xs.all flatV = true ∧ SqL K H p ys ∧ (∀ y ∈ ys, TIt K H a xs e y) ∧ Q (.bl (ys.any e)) H
theorem op_inTL (hu : X.A.units + 64 < cLine) : OpR X (compareOp .In) (rInTL X.K) := by
  intro pins s σ H x y v u Q I rx ry h
  obtain ⟨a, p, xs, ys, e, rfl, rfl, ha, fx, hp, hi, q⟩ := h
  cases rx; cases ry
  obtain ⟨its, r, pl, _⟩ := I.tuple ha
  obtain ⟨its2, r2, pl2, _⟩ := I.list hp
  have nv : ys.all nvV = true := List.all_eq_true.mpr fun y hy => (hi y hy).nv
  have h2 : X.A.in1.units < cLine := by
    show X.A.units + 1 < cLine
    exact Nat.lt_of_le_of_lt (by omega) hu
  have h3 : X.A.in1.units + 1 < cLine := by
    show X.A.units + 1 + 1 < cLine
    exact Nat.lt_of_le_of_lt (by omega) hu
  refine SeqAt.in_listAt (fun u => e (absU u)) pl2.isList (fun w hw => ?_) ⟨.bl _, H, I, rfl, ?_⟩
  · obtain ⟨y, hy, ry⟩ := vals_memU r2 w (by simpa using hw)
    have hT := hi y hy
    show SeqAt.EqAt X.A.in1 s w (.ref a) (e (absU w))
    rw [absU_of ry hT.nv]
    rcases hT with ⟨rfl | ⟨b, rfl⟩ | ⟨i, rfl⟩, he⟩ | ⟨b, zs, rfl, hb, fz, hne, he⟩
    · rw [he]; cases ry; exact SeqAt.EqAt.none_tuple pl h2
    · rw [he]; cases ry; exact SeqAt.EqAt.bool_tuple b pl h2
    · rw [he]; obtain ⟨t, rfl⟩ := ry; exact SeqAt.EqAt.int_tuple i t pl h2
    · rw [he]; cases ry
      obtain ⟨its3, r3, pl3, _⟩ := I.tuple hb
      have l1 := r.length
      have l3 := r3.length
      have h := SeqAt.RcAt.tuples (A := X.A.in1) (e := fun j => eqV ((zs[j]?).getD .non) ((xs[j]?).getD .non)) pl3 pl h2 (fun j h1 h2 => flat_at r3 r fz fx j h1 h2)
      refine SeqAt.EqAt.of_refs hne ?_
      have e1 : ((List.range (min its3.toArray.size its.toArray.size)).all (fun j => eqV ((zs[j]?).getD .non) ((xs[j]?).getD .non)) && its3.toArray.size == its.toArray.size) = eqVs zs xs := by
        unfold eqVs
        simp only [List.size_toArray, l1, l3]
      rw [e1] at h
      exact h
  · rw [show its2.toArray.any (fun u => e (absU u)) = its2.any (fun u => e (absU u)) by simp, any_absU e r2 nv]
    exact q
theorem kInTL (hu : X.A.units + 64 < cLine) (hK : X.K = K := by rfl) : OpR X (compareOp .In) (rInTL K) := by subst hK; exact op_inTL hu
end
end L2
namespace BV
open PySem L2
theorem same_new {H : Hp} {p : Addr} (h : H p = none) (o : HO) : Same H (upd H p o) := fun b u q => by rw [upd_ne (ne_of_none q h)]; exact q
inductive All2 {α β : Type} (R : α → β → Prop) : List α → List β → Prop where
  | nil : All2 R [] []
  | cons {a b as bs} : R a b → All2 R as bs → All2 R (a :: as) (b :: bs)
namespace All2
variable {α β : Type} {R S : α → β → Prop}
theorem imp {as : List α} {bs : List β} (h : All2 R as bs) (f : ∀ a b, R a b → S a b) : All2 S as bs := by
  induction h with
  | nil => exact .nil
  | cons r _ ih => exact .cons (f _ _ r) ih
theorem app {as as' : List α} {bs bs' : List β} (h : All2 R as bs) (h' : All2 R as' bs') : All2 R (as ++ as') (bs ++ bs') := by
  induction h with
  | nil => exact h'
  | cons r _ ih => exact .cons r ih
theorem len {as : List α} {bs : List β} (h : All2 R as bs) : as.length = bs.length := by
  induction h with
  | nil => rfl
  | cons _ _ ih => simp only [List.length_cons, ih]
theorem get {as : List α} {bs : List β} (h : All2 R as bs) : ∀ {i : Nat} {b : β}, bs[i]? = some b → ∃ a, as[i]? = some a ∧ R a b := by
  induction h with
  | nil => intro i b e; simp at e
  | @cons a b as bs r _ ih =>
    intro i c e
    cases i with
    | zero => simp at e; subst e; exact ⟨a, rfl, r⟩
    | succ i => exact ih (by simpa using e)
theorem get' {as : List α} {bs : List β} (h : All2 R as bs) : ∀ {i : Nat} {a : α}, as[i]? = some a → ∃ b, bs[i]? = some b ∧ R a b := by
  induction h with
  | nil => intro i b e; simp at e
  | @cons a b as bs r _ ih =>
    intro i c e
    cases i with
    | zero => simp at e; subst e; exact ⟨b, rfl, r⟩
    | succ i => exact ih (by simpa using e)
theorem split {as as' : List α} : ∀ {bs : List β}, All2 R (as ++ as') bs → ∃ b1 b2, bs = b1 ++ b2 ∧ All2 R as b1 ∧ All2 R as' b2 := by
  induction as with
  | nil => intro bs h; exact ⟨[], bs, rfl, .nil, h⟩
  | cons a as ih =>
    intro bs h
    cases h with
    | cons r h =>
      obtain ⟨b1, b2, rfl, h1, h2⟩ := ih h
      exact ⟨_ :: b1, b2, rfl, .cons r h1, h2⟩
end All2
end BV
namespace BV
open PySem L2
end BV
namespace CL
open PySem L2 BV
def isSc : V → Bool
  | .int _ | .bl _ | .str _ | .non => true
  | _ => false
theorem sc_plain {x : V} (h : isSc x = true) : plainV x = true := by cases x <;> first | rfl | (cases h; done)
theorem flat_sc {x : V} (h : isSc x = true) : scal x x = true := by cases x <;> first | rfl | (cases h; done)
def Mo (H H' : Hp) : Prop := ∀ b xs, H b = some (.tup xs) → H' b = some (.tup xs)
def Dp (H : Hp) : Nat → V → V → Prop
  | 0, x, y => isSc x = true ∧ x = y
  | n + 1, x, y => (isSc x = true ∧ x = y) ∨ ∃ a b xs ys, x = .ref a ∧ y = .ref b ∧ H a = some (.tup xs) ∧ H b = some (.tup ys) ∧ xs.length ≤ 1000 ∧ All2 (Dp H n) xs ys
theorem Dp.sc {H : Hp} {x : V} (h : isSc x = true) : ∀ n, Dp H n x x
  | 0 => ⟨h, rfl⟩
  | _ + 1 => .inl ⟨h, rfl⟩
theorem Dp.mono {H H' : Hp} (m : Mo H H') : ∀ n x y, Dp H n x y → Dp H' n x y
  | 0, _, _, h => h
  | n + 1, _, _, h => by
    rcases h with h | ⟨a, b, xs, ys, e1, e2, h1, h2, hl, hA⟩
    · exact .inl h
    · exact .inr ⟨a, b, xs, ys, e1, e2, m _ _ h1, m _ _ h2, hl, hA.imp fun x y h => Dp.mono m n x y h⟩
def Bt (a : Addr) (H H' : Hp) : Prop := ∀ b o, H b = some o → b ≠ a → H' b = some o
theorem Bt.of {a : Addr} {H H' : Hp} (h : Same H H') : Bt a H H' := fun b o q _ => h b o q
theorem Bt.trans {a : Addr} {H H1 H2 : Hp} (h : Bt a H H1) (h' : Bt a H1 H2) : Bt a H H2 := fun b o q n => h' b o (h b o q n) n
theorem Bt.upd {a : Addr} {H : Hp} (o : HO) : Bt a H (upd H a o) := fun b u q n => by rw [upd_ne n]; exact q
theorem Bt.tups {a : Addr} {H H' : Hp} {us : List V} (h : Bt a H H') (ha : H a = some (.lst us)) : Mo H H' := fun b xs q => h b _ q fun e => by subst e; rw [ha] at q; cases q
theorem tups_of {H H' : Hp} (s : Same H H') : Mo H H' := fun b xs e => s _ _ e
theorem one1 : 1 ≤ sizeLine := by decide
theorem two2 : 2 ≤ sizeLine := by decide
theorem three3 : 3 ≤ sizeLine := by decide
theorem kit_tt {K : PySem.W.Frag} : PySem.W.kitOne K (.type "tuple") (.type "tuple") = some true := rfl
theorem kit_tl {K : PySem.W.Frag} : PySem.W.kitOne K (.type "tuple") (.type "list") = some false := by rfl
theorem kit_ll {K : PySem.W.Frag} : PySem.W.kitOne K (.type "list") (.type "list") = some true := by rfl
theorem kit_lt {K : PySem.W.Frag} : PySem.W.kitOne K (.type "list") (.type "tuple") = some false := by rfl
theorem kat_t {K : PySem.W.Frag} : PySem.W.kitAny K (.type "tuple") [.type "list", .type "tuple"] = some true := by rfl
theorem kat_l {K : PySem.W.Frag} : PySem.W.kitAny K (.type "list") [.type "list", .type "tuple"] = some true := by rfl
structure ScT (K : PySem.W.Frag) (t : Value) : Prop where
  li : PySem.W.kitOne K t (.type "list") = some false
  tu : PySem.W.kitOne K t (.type "tuple") = some false
  bo : PySem.W.kitAny K t [.type "list", .type "tuple"] = some false
  bl : ∃ b, PySem.W.kitOne K t (.type "bool") = some b
  st : ∃ b, PySem.W.kitOne K t (.type "str") = some b
  nt : ∃ b, PySem.W.kitOne K t (.type "int") = some b
theorem sc_ty {K : PySem.W.Frag} {H : Hp} {x : V} (h : isSc x = true) : ∃ t, TyOf K H x t ∧ ScT K t := by
  cases x with
  | int i => exact ⟨_, .int i, by rfl, by rfl, by rfl, ⟨_, by rfl⟩, ⟨_, by rfl⟩, ⟨_, by rfl⟩⟩
  | bl i => exact ⟨_, .bl i, by rfl, by rfl, by rfl, ⟨_, by rfl⟩, ⟨_, by rfl⟩, ⟨_, by rfl⟩⟩
  | str i => exact ⟨_, .str i, by rfl, by rfl, by rfl, ⟨_, by rfl⟩, ⟨_, by rfl⟩, ⟨_, by rfl⟩⟩
  | non => exact ⟨_, .non, by rfl, by rfl, by rfl, ⟨_, by rfl⟩, ⟨_, by rfl⟩, ⟨_, by rfl⟩⟩
  | _ => cases h
end CL
set_option maxHeartbeats 4000000
namespace CL
open PySem L2 BV
seal PE PT PW PA PS PSs PTs PI PG PGs PO
def top (i : Nat) : Stmt := PySem.Challenge.pw_speakmill_k62_swept.main.body.getD i (.Pass ⟨0, 0, 0, 0⟩)
abbrev s_init : Stmt := inClass (top 1) 0
abbrev s_put : Stmt := inClass (top 1) 1
abbrev s_at : Stmt := inClass (top 1) 2
abbrev s_many : Stmt := inClass (top 1) 3
abbrev s_told : Stmt := inClass (top 1) 4
abbrev s_law_same : Stmt := top 11
theorem sc_init : FnScope ["self"] ["self"] (defScope s_init) := ⟨rfl, rfl, rfl, by decide +kernel, rfl, by decide +kernel, by decide +kernel⟩
theorem sc_put : FnScope ["self", "cell"] ["self", "cell"] (defScope s_put) := ⟨rfl, rfl, rfl, by decide +kernel, rfl, by decide +kernel, by decide +kernel⟩
theorem sc_at : FnScope ["self", "value"] ["self", "value"] (defScope s_at) := ⟨rfl, rfl, rfl, by decide +kernel, rfl, by decide +kernel, by decide +kernel⟩
theorem sc_many : FnScope ["self"] ["self"] (defScope s_many) := ⟨rfl, rfl, rfl, by decide +kernel, rfl, by decide +kernel, by decide +kernel⟩
theorem sc_told : FnScope ["self"] ["self"] (defScope s_told) := ⟨rfl, rfl, rfl, by decide +kernel, rfl, by decide +kernel, by decide +kernel⟩
theorem sc_law_same : FnScope ["_law_found", "_law_due"] ["_law_found", "_law_due"] (defScope s_law_same) := ⟨rfl, rfl, rfl, by decide +kernel, rfl, by decide +kernel, by decide +kernel⟩
structure NoG (mg : Str → Option Value) : Prop where
  len_ : mg "len" = none
  list_ : mg "list" = none
  range_ : mg "range" = none
  isinstance_ : mg "isinstance" = none
  str_ : mg "str" = none
  tuple_ : mg "tuple" = none
  int_ : mg "int" = none
  bool_ : mg "bool" = none
  all_ : mg "all" = none
theorem ifT {c A B : Prop} [Decidable c] (h : c) (a : A) : if c then A else B := by rw [if_pos h]; exact a
theorem ifF {c A B : Prop} [Decidable c] (h : ¬ c) (b : B) : if c then A else B := by rw [if_neg h]; exact b
structure RCls (K : PySem.W.Frag) (C : Addr) (mf : Str → Addr) (md : Str → FuncData) : Prop where
  cl : Cls K C
  ni : NoAttr K C "in_order"
  m_put : Meth K C "put" (mf "put")
  m_at : Meth K C "at" (mf "at")
  m_many : Meth K C "many" (mf "many")
  m_told : Meth K C "told" (mf "told")
  b_put : Binds K (md "put") ["self", "cell"] []
  b_at : Binds K (md "at") ["self", "value"] []
  b_many : Binds K (md "many") ["self"] []
  b_told : Binds K (md "told") ["self"] []
def CAt (C : Addr) (H : Hp) (o L : Addr) (us : List V) : Prop := ∃ dx, H o = some (.ins C dx [("in_order", .ref L)]) ∧ H L = some (.lst us)
theorem CAt.same {C : Addr} {H H' : Hp} {o L : Addr} {us : List V} (h : CAt C H o L us) (s : Same H H') : CAt C H' o L us := let ⟨dx, h1, h2⟩ := h; ⟨dx, s _ _ h1, s _ _ h2⟩
theorem CAt.bt {C : Addr} {H H' : Hp} {o L a : Addr} {us xs : List V} (h : CAt C H o L us) (s : Bt a H H') (ha : H a = some (.lst xs)) (hn : L ≠ a) : CAt C H' o L us :=
  let ⟨dx, h1, h2⟩ := h; ⟨dx, s _ _ h1 (fun e => by subst e; rw [ha] at h1; cases h1), s _ _ h2 hn⟩
theorem ty_same {K : PySem.W.Frag} {H H' : Hp} {x : V} {t : Value} (s : Same H H') (h : TyOf K H x t) : TyOf K H' x t := by
  cases h with
  | non => exact .non
  | bl y => exact .bl y
  | int y => exact .int y
  | str y => exact .str y
  | flt y => exact .flt y
  | lst e => exact .lst (s _ _ e)
  | frz e => exact .frz (s _ _ e)
  | tup e => exact .tup (s _ _ e)
  | dK e => exact .dK (s _ _ e)
  | dT e => exact .dT (s _ _ e)
  | ins e c a b d m => exact .ins (s _ _ e) c a b d m
theorem lk (u : V) : ([("in_order", u)] : List (Str × V)).lookup ("in_order" : Str) = some u := by rfl
section
variable {P : Program} {w : World} {K : PySem.W.Frag} {mg : Str → Option Value} {base : Heap} {C fi f : Addr} {di fd : FuncData} {mf : Str → Addr} {md : Str → FuncData}
def spInit (C : Addr) : Sp := fun vs H Q _ => ∃ x dx, vs = [.ref x] ∧ H x = some (.ins C dx []) ∧ ∀ L, H L = none → Q .non (upd (upd H L (.lst [])) x (.ins C dx [("in_order", .ref L)]))
theorem ok_init (F : Fun K "__init__" "Cells.__init__" s_init fi di) (RC : RCls K C mf md) : FnOk P w K mg base CX0 1 fi di ["self"] (spInit C) := by
  refine F.ok sc_init (fun vs H Q E h => ?_) (fun cdv A outer s H vs Q E hr h => ?_)
  · obtain ⟨x, dx, rfl, _⟩ := h
    rfl
  obtain ⟨x, dx, rfl, h1, q⟩ := h
  have nd := sc_init.nd
  refine ⟨_, (pss_one (ps_fld (pv 0) (pe_lst pa_nil) rfl)), ?_⟩
  refine ⟨(by show 0 ≤ sizeLine; decide), fun L hL => ⟨_, rfl, x, C, dx, _, rfl, (same_new hL _) _ _ h1, RC.cl, RC.ni, (by decide), ?_⟩⟩
  exact q L hL
def spPut (C : Addr) : Sp := fun vs H Q _ => ∃ o L us c, vs = [.ref o, c] ∧ CAt C H o L us ∧ us.length ≤ 1000 ∧ ∀ p H', H p = none → Bt L H H' → CAt C H' o L (us ++ [c]) → H' p = some (.tup [.str "cell", .int (us.length : Nat)]) → Q (.ref p) H'
theorem ok_put (F : Fun K "put" "Cells.put" s_put (mf "put") (md "put")) (B : NoG mg) (RC : RCls K C mf md) : FnOk P w K mg base CX0 1 (mf "put") (md "put") ["self", "cell"] (spPut C) := by
  refine F.ok sc_put (fun vs H Q E h => ?_) (fun cdv A outer s H vs Q E hr h => ?_)
  · obtain ⟨o, L, us, c, rfl, _⟩ := h
    rfl
  obtain ⟨o, L, us, c, rfl, ⟨dx, h1, h2⟩, hz, q⟩ := h
  have nd := sc_put.nd
  have zz : (2000 : Nat) ≤ sizeLine := by decide
  refine ⟨_, (pss_cons (ps_expr (k_bm (K := K) PySem.F.plainAttrs_list PySem.F.slot_list_append PySem.F.type_list_append mt_append (pe_fld (pv 0) rfl) (pa_cons (pv 1) pa_nil)))
      (pss_one (ps_ret (pe_tup (pa_cons pe_str (pa_cons (pe_op op_sub (pe_callB (k_len (K := K)) rfl B.len_ bt_len (pa_cons (pe_fld (pv 0) rfl) pa_nil)) pe_int) pa_nil)))))), ?_⟩
  refine ⟨_, rfl, o, C, dx, _, _, rfl, h1, RC.cl, RC.ni, lk _, .inl ⟨rfl, _, SqL.of h2⟩, _, rfl, L, us, _, rfl, rfl, h2, by omega, ?_⟩
  have hoL : o ≠ L := fun e => by subst e; rw [h2] at h1; cases h1
  have h1' : upd H L (.lst (us ++ [c])) o = some (.ins C dx [("in_order", .ref L)]) := by rw [upd_ne hoL]; exact h1
  refine ⟨_, rfl, o, C, dx, _, _, rfl, h1', RC.cl, RC.ni, lk _, _, _, rfl, .inl ⟨_, SqL.of upd_same, rfl⟩, _, _, rfl, rfl, two2, fun p hp => ?_⟩
  have hpL : p ≠ L := fun e => by subst e; rw [upd_same] at hp; cases hp
  have hp0 : H p = none := by rw [← hp, upd_ne hpL]
  have el : (((us ++ [c]).length : Nat) : Int) - 1 = (us.length : Nat) := by rw [List.length_append]; simp
  show Q (.ref p) (upd (upd H L (.lst (us ++ [c]))) p (.tup [.str "cell", .int ((((us ++ [c]).length : Nat) : Int) - 1)]))
  rw [el]
  have s2 := same_new hp (.tup [.str "cell", .int (us.length : Nat)])
  exact q p _ hp0 ((Bt.upd _).trans (.of s2)) ⟨dx, s2 _ _ h1', s2 _ _ upd_same⟩ upd_same
def spAt (C : Addr) : Sp := fun vs H Q _ => ∃ (o L : Addr) (us : List V) (v : Addr) (j : Nat) (c : V), vs = [.ref o, .ref v] ∧ CAt C H o L us ∧ H v = some (.tup [.str "cell", .int (j : Nat)]) ∧ us[j]? = some c ∧ Q c H
theorem ok_at (F : Fun K "at" "Cells.at" s_at (mf "at") (md "at")) (RC : RCls K C mf md) : FnOk P w K mg base CX0 1 (mf "at") (md "at") ["self", "value"] (spAt C) := by
  refine F.ok sc_at (fun vs H Q E h => ?_) (fun cdv A outer s H vs Q E hr h => ?_)
  · obtain ⟨o, L, us, v, j, c, rfl, _⟩ := h
    rfl
  obtain ⟨o, L, us, v, j, c, rfl, ⟨dx, h1, h2⟩, hv, hj, q⟩ := h
  have nd := sc_at.nd
  refine ⟨_, (pss_one (ps_ret (pe_ix (kIx (K := K) (w := w)) (pe_fld (pv 0) rfl) (pe_ix (kIx (K := K) (w := w)) (pv 1) pe_int (fun _ _ => rfl)) (fun _ _ => rfl)))), ?_⟩
  exact ⟨_, rfl, o, C, dx, _, _, rfl, h1, RC.cl, RC.ni, lk _, _, rfl, .inr (.inl ⟨v, _, 1, _, rfl, rfl, SqT.of hv, rfl, .inl ⟨L, _, _, _, rfl, rfl, SqL.of h2, atI_nat hj, q⟩⟩)⟩
def spMany (C : Addr) : Sp := fun vs H Q _ => ∃ o L us, vs = [.ref o] ∧ CAt C H o L us ∧ Q (.int (us.length : Nat)) H
theorem ok_many (F : Fun K "many" "Cells.many" s_many (mf "many") (md "many")) (B : NoG mg) (RC : RCls K C mf md) : FnOk P w K mg base CX0 1 (mf "many") (md "many") ["self"] (spMany C) := by
  refine F.ok sc_many (fun vs H Q E h => ?_) (fun cdv A outer s H vs Q E hr h => ?_)
  · obtain ⟨o, L, us, rfl, _⟩ := h
    rfl
  obtain ⟨o, L, us, rfl, ⟨dx, h1, h2⟩, q⟩ := h
  have nd := sc_many.nd
  refine ⟨_, (pss_one (ps_ret (pe_callB (k_len (K := K)) rfl B.len_ bt_len (pa_cons (pe_fld (pv 0) rfl) pa_nil)))), ?_⟩
  exact ⟨_, rfl, o, C, dx, _, _, rfl, h1, RC.cl, RC.ni, lk _, _, _, rfl, .inl ⟨_, SqL.of h2, rfl⟩, q⟩
def spToldC (C : Addr) : Sp := fun vs H Q _ => ∃ o L us, vs = [.ref o] ∧ CAt C H o L us ∧ ∀ l, H l = none → Q (.ref l) (upd H l (.lst us))
theorem ok_told (F : Fun K "told" "Cells.told" s_told (mf "told") (md "told")) (B : NoG mg) (RC : RCls K C mf md) : FnOk P w K mg base CX0 1 (mf "told") (md "told") ["self"] (spToldC C) := by
  refine F.ok sc_told (fun vs H Q E h => ?_) (fun cdv A outer s H vs Q E hr h => ?_)
  · obtain ⟨o, L, us, rfl, _⟩ := h
    rfl
  obtain ⟨o, L, us, rfl, ⟨dx, h1, h2⟩, q⟩ := h
  have nd := sc_told.nd
  refine ⟨_, (pss_one (ps_ret (pe_callTy (k_list (K := K)) rfl B.list_ bt_list (pa_cons (pe_fld (pv 0) rfl) pa_nil)))), ?_⟩
  exact ⟨_, rfl, o, C, dx, _, _, rfl, h1, RC.cl, RC.ni, lk _, L, us, rfl, .inl (SqL.of h2), q⟩
def spSame (n : Nat) : Sp := fun vs H Q _ => ∃ x y, vs = [x, y] ∧ (Dp H n x y ∨ ∃ a b xs ys m, x = .ref a ∧ y = .ref b ∧ H a = some (.lst xs) ∧ H b = some (.lst ys) ∧ xs.length ≤ 1000 ∧ n = m + 1 ∧ All2 (Dp H m) xs ys) ∧ ∀ H', Same H H' → Q (.bl true) H'
def spVoid : Sp := fun _ _ _ _ => False
theorem ok_void {CX : CXT} {k : Nat} {f : Addr} {fd : FuncData} {ps : List Str} : FnOk P w K mg base CX k f fd ps spVoid := ⟨fun _ _ _ _ h => h.elim, fun _ _ _ _ _ _ _ _ _ _ _ _ _ h => h.elim⟩
theorem ok_same_of {n : Nat} {sp : Sp} (F : Fun K "_law_same" "_law_same" s_law_same f fd) (B : NoG mg) (G_law_same : FnOk P w K mg base CX0 n f fd ["_law_found", "_law_due"] sp) (hsp : ∀ m, n = m + 1 → sp = spSame m)
    (b_law_same : Binds K fd ["_law_found", "_law_due"] []) (k_law_same : PySem.W.keepIn K (.ref f) = true) (m_law_same : mg "_law_same" = some (.ref f)) : FnOk P w K mg base CX0 (n + 1) f fd ["_law_found", "_law_due"] (spSame n) := by
  refine F.ok sc_law_same (fun vs H Q E h => ?_) (fun cdv A outer s H vs Q E hr h => ?_)
  · obtain ⟨x, y, rfl, _⟩ := h
    rfl
  obtain ⟨x, y, rfl, hd, q⟩ := h
  have nd := sc_law_same.nd
  have hu := hr.units0
  have zz : (1000 : Nat) ≤ sizeLine := by decide
  refine ⟨_, (pss_cons (ps_cut (ps_if (PW.pt (pw_or (pt_cmpR (kNe (K := K) hu) (pe_callB (k_isi (K := K)) rfl B.isinstance_ bt_isinstance (pa_cons (pv 1) (pa_cons (pe_bltn (v := .ty "list") rfl B.list_ bt_list rfl) pa_nil))) (pe_callB (k_isi (K := K)) rfl B.isinstance_ bt_isinstance (pa_cons (pv 0) (pa_cons (pe_bltn (v := .ty "list") rfl B.list_ bt_list rfl) pa_nil))) rfl) (pw_or1 (pt_cmpR (kNe (K := K) hu) (pe_callB (k_isi (K := K)) rfl B.isinstance_ bt_isinstance (pa_cons (pv 1) (pa_cons (pe_bltn (v := .ty "tuple") rfl B.tuple_ bt_tuple rfl) pa_nil))) (pe_callB (k_isi (K := K)) rfl B.isinstance_ bt_isinstance (pa_cons (pv 0) (pa_cons (pe_bltn (v := .ty "tuple") rfl B.tuple_ bt_tuple rfl) pa_nil))) rfl)))) (pss_one (ps_ret pe_bl)) pss_nil))
      (pss_cons (ps_if (k_truth (K := K) (pe_callB (k_isi2 (K := K)) rfl B.isinstance_ bt_isinstance (pa_cons (pv 1) (pa_cons (pe_tup (pa_cons (pe_bltn (v := .ty "list") rfl B.list_ bt_list rfl) (pa_cons (pe_bltn (v := .ty "tuple") rfl B.tuple_ bt_tuple rfl) pa_nil))) pa_nil))) (fun _ => rfl)) (pss_one (ps_ret (pe_and (pe_cmpR (kEq (K := K) hu) (pe_callB (k_len (K := K)) rfl B.len_ bt_len (pa_cons (pv 0) pa_nil)) (pe_callB (k_len (K := K)) rfl B.len_ bt_len (pa_cons (pv 1) pa_nil)) rfl) (pe_one (pe_callB (k_all (K := K) rfl) rfl B.all_ bt_all (pa_cons (pe_comp (CompScope.mk (N := ["_law_found", "_law_due"]) (sc := defScope s_law_same) (caps := [0, 1]) (ns := ["_law_found", "_law_due"]) (by decide +kernel) rfl (by decide +kernel) rfl (by decide +kernel) rfl (by decide +kernel) (by decide +kernel)) rfl rfl rfl (pi_range1 rfl B.range_ (pa_cons (pe_callB (k_len (K := K)) rfl B.len_ bt_len (pa_cons (pv 1) pa_nil)) pa_nil)) (fun _ _ _ _ _ => pts_nil) (fun _ _ _ _ _ => (pe_call G_law_same (hr.mono (by first | decide | omega)) rfl m_law_same k_law_same b_law_same .nil pass0 (pa_cons (pe_ix (kIx (K := K) (w := w)) (pv 1) (pv 0) (fun _ _ => rfl)) (pa_cons (pe_ix (kIx (K := K) (w := w)) (pv 2) (pv 0) (fun _ _ => rfl)) pa_nil))))) pa_nil)))))) pss_nil)
      (pss_cons (ps_cut (ps_if (PW.pt (pw_or (pt_cmpR (kNe (K := K) hu) (pe_callB (k_isi (K := K)) rfl B.isinstance_ bt_isinstance (pa_cons (pv 1) (pa_cons (pe_bltn (v := .ty "bool") rfl B.bool_ bt_bool rfl) pa_nil))) (pe_callB (k_isi (K := K)) rfl B.isinstance_ bt_isinstance (pa_cons (pv 0) (pa_cons (pe_bltn (v := .ty "bool") rfl B.bool_ bt_bool rfl) pa_nil))) rfl) (pw_or1 (pt_cmpR (kNe (K := K) hu) (pe_callB (k_isi (K := K)) rfl B.isinstance_ bt_isinstance (pa_cons (pv 1) (pa_cons (pe_bltn (v := .ty "str") rfl B.str_ bt_str rfl) pa_nil))) (pe_callB (k_isi (K := K)) rfl B.isinstance_ bt_isinstance (pa_cons (pv 0) (pa_cons (pe_bltn (v := .ty "str") rfl B.str_ bt_str rfl) pa_nil))) rfl)))) (pss_one (ps_ret pe_bl)) pss_nil))
      (pss_one (ps_ret (pe_and (pe_cmpR (kEq (K := K) hu) (pe_callB (k_isi (K := K)) rfl B.isinstance_ bt_isinstance (pa_cons (pv 1) (pa_cons (pe_bltn (v := .ty "int") rfl B.int_ bt_int rfl) pa_nil))) (pe_callB (k_isi (K := K)) rfl B.isinstance_ bt_isinstance (pa_cons (pv 0) (pa_cons (pe_bltn (v := .ty "int") rfl B.int_ bt_int rfl) pa_nil))) rfl) (pe_one (pe_cmpR (kEq (K := K) hu) (pv 0) (pv 1) rfl)))))))), ?_⟩
  have hd2 : (isSc x = true ∧ x = y) ∨ ∃ a b xs ys m t, x = .ref a ∧ y = .ref b ∧ n = m + 1 ∧ xs.length ≤ 1000 ∧ All2 (Dp H m) xs ys ∧ TyOf K H x t ∧ TyOf K H y t ∧ (∃ c, PySem.W.kitOne K t (.type "list") = some c) ∧ (∃ c, PySem.W.kitOne K t (.type "tuple") = some c) ∧
      PySem.W.kitAny K t [.type "list", .type "tuple"] = some true ∧ ((H a = some (.tup xs) ∧ H b = some (.tup ys)) ∨ (H a = some (.lst xs) ∧ H b = some (.lst ys))) := by
    rcases hd with hd | ⟨a, b, xs, ys, m, rfl, rfl, ha, hb, hl, e, hA⟩
    · cases n with
      | zero => exact .inl hd
      | succ m =>
        rcases hd with hd | ⟨a, b, xs, ys, rfl, rfl, ha, hb, hl, hA⟩
        · exact .inl hd
        · exact .inr ⟨a, b, xs, ys, m, _, rfl, rfl, rfl, hl, hA, .tup ha, .tup hb, ⟨_, kit_tl⟩, ⟨_, kit_tt⟩, kat_t, .inl ⟨ha, hb⟩⟩
    · exact .inr ⟨a, b, xs, ys, m, _, rfl, rfl, e, hl, hA, .lst ha, .lst hb, ⟨_, kit_ll⟩, ⟨_, kit_lt⟩, kat_l, .inr ⟨ha, hb⟩⟩
  refine ⟨fun σ H' => σ = [some x, some y] ∧ H = H', ?_, ?_⟩
  · have ht : ∃ t c d, TyOf K H x t ∧ TyOf K H y t ∧ PySem.W.kitOne K t (.type "list") = some c ∧ PySem.W.kitOne K t (.type "tuple") = some d := by
      rcases hd2 with ⟨hs, rfl⟩ | ⟨a, b, xs, ys, m, t, _, _, _, _, _, h1, h2, ⟨c, hc⟩, ⟨d, hd⟩, _⟩
      · obtain ⟨t, h1, h2⟩ := sc_ty (K := K) (H := H) hs
        exact ⟨t, _, _, h1, h1, h2.li, h2.tu⟩
      · exact ⟨t, c, d, h1, h2, hc, hd⟩
    obtain ⟨t, c, d, h1, h2, hc, hd⟩ := ht
    refine ⟨_, rfl, _, _, _, _, rfl, h2, hc, _, rfl, _, _, _, _, rfl, h1, hc, .inl ⟨rfl, _, rfl, ifF (by simp) ?_⟩⟩
    exact ⟨_, rfl, _, _, _, _, rfl, h2, hd, _, rfl, _, _, _, _, rfl, h1, hd, .inl ⟨rfl, _, rfl, ifF (by simp) ⟨rfl, rfl⟩⟩⟩
  rintro σ H' ⟨rfl, rfl⟩
  refine ⟨_, rfl, two2, fun p hp => ?_⟩
  have s1 := same_new hp (.tup [.ty "list", .ty "tuple"])
  rcases hd2 with ⟨hs, rfl⟩ | ⟨a, b, xs, ys, m, t, rfl, rfl, rfl, hl, hA, h1, h2, _, _, hk, hab⟩
  · obtain ⟨t, h1, hS⟩ := sc_ty (K := K) (H := upd H p (.tup [.ty "list", .ty "tuple"])) hs
    obtain ⟨cb, hcb⟩ := hS.bl
    obtain ⟨cs, hcs⟩ := hS.st
    obtain ⟨ci, hci⟩ := hS.nt
    refine ⟨x, _, _, t, false, p, rfl, SqT.of upd_same, h1, hS.bo, _, rfl, ifF Bool.false_ne_true ?_⟩
    refine ⟨fun σ H' => σ = [some x, some x] ∧ upd H p (.tup [.ty "list", .ty "tuple"]) = H', ?_, ?_⟩
    · refine ⟨_, rfl, _, _, _, _, rfl, h1, hcb, _, rfl, _, _, _, _, rfl, h1, hcb, .inl ⟨rfl, _, rfl, ifF (by simp) ?_⟩⟩
      exact ⟨_, rfl, _, _, _, _, rfl, h1, hcs, _, rfl, _, _, _, _, rfl, h1, hcs, .inl ⟨rfl, _, rfl, ifF (by simp) ⟨rfl, rfl⟩⟩⟩
    rintro σ H' ⟨rfl, rfl⟩
    refine ⟨_, rfl, _, _, _, _, rfl, h1, hci, _, rfl, _, _, _, _, rfl, h1, hci, .inl ⟨rfl, _, rfl, ifT (by simp) ⟨_, rfl, _, rfl, .inl ⟨flat_sc hs, ?_⟩⟩⟩⟩
    have e : decide (x = x) = true := by simp
    rw [e]
    exact q _ s1
  · have hGs : FnOk P w K mg base CX0 (m + 1) f fd ["_law_found", "_law_due"] (spSame m) := hsp m rfl ▸ G_law_same
    have hlen := hA.len
    refine ⟨.ref b, _, _, t, true, p, rfl, SqT.of upd_same, ty_same s1 h2, hk, _, rfl, ifT rfl ?_⟩
    have la : LenV K (.ref a) (upd H p (.tup [.ty "list", .ty "tuple"])) xs.length := by
      rcases hab with ⟨ha, hb⟩ | ⟨ha, hb⟩
      · exact .inr ⟨_, SqT.of (s1 _ _ ha), rfl⟩
      · exact .inl ⟨_, SqL.of (s1 _ _ ha), rfl⟩
    have lb : LenV K (.ref b) (upd H p (.tup [.ty "list", .ty "tuple"])) ys.length := by
      rcases hab with ⟨ha, hb⟩ | ⟨ha, hb⟩
      · exact .inr ⟨_, SqT.of (s1 _ _ hb), rfl⟩
      · exact .inl ⟨_, SqL.of (s1 _ _ hb), rfl⟩
    refine ⟨_, rfl, _, _, rfl, la, _, rfl, _, _, rfl, lb, .inl ⟨rfl, _, rfl, ifT (by rw [hlen]; simp) ?_⟩⟩
    refine ⟨_, rfl, _, _, rfl, lb, _, rfl, by omega, by omega, comp_range (n := ys.length) (fun j zs H' => zs = List.replicate j (.bl true) ∧ Same (upd H p (.tup [.ty "list", .ty "tuple"])) H') ⟨rfl, Same.refl _⟩ ?_ ?_ ?_⟩
    · rintro i zs H' hi ⟨rfl, _⟩
      rw [List.length_replicate]
      omega
    · rintro i zs H' hi ⟨rfl, sm⟩
      refine noTest ?_
      have hx : i < xs.length := by omega
      obtain ⟨y, hy, hxy⟩ := hA.get' (List.getElem?_eq_getElem hx)
      have e0 : (0 : Int) + (i : Nat) = ((i : Nat) : Int) := by omega
      have a1 : atI xs (0 + (i : Nat)) = some xs[i] := by rw [e0]; exact atI_nat (List.getElem?_eq_getElem hx)
      have a2 : atI ys (0 + (i : Nat)) = some y := by rw [e0]; exact atI_nat hy
      have fin : spSame m [xs[i], y] H' (fun y H3 => List.replicate i (V.bl true) ++ [y] = List.replicate (i + 1) (.bl true) ∧ Same (upd H p (.tup [.ty "list", .ty "tuple"])) H3) E :=
        ⟨_, _, rfl, .inl (Dp.mono (tups_of (s1.trans sm)) _ _ _ hxy), fun H3 s3 => ⟨by rw [List.replicate_succ'], sm.trans s3⟩⟩
      rcases hab with ⟨ha, hb⟩ | ⟨ha, hb⟩
      · exact ⟨_, rfl, _, rfl, .inr (.inl ⟨a, xs, _, _, rfl, rfl, SqT.of (sm _ _ (s1 _ _ ha)), a1, _, rfl, _, rfl, .inr (.inl ⟨b, ys, _, _, rfl, rfl, SqT.of (sm _ _ (s1 _ _ hb)), a2, hsp m rfl ▸ fin⟩)⟩)⟩
      · exact ⟨_, rfl, _, rfl, .inl ⟨a, xs, _, _, rfl, rfl, SqL.of (sm _ _ (s1 _ _ ha)), a1, _, rfl, _, rfl, .inl ⟨b, ys, _, _, rfl, rfl, SqL.of (sm _ _ (s1 _ _ hb)), a2, hsp m rfl ▸ fin⟩⟩⟩
    · rintro zs H' ⟨rfl, sm⟩ D hD
      refine ⟨D, List.replicate ys.length true, rfl, SqL.of ?_, ?_⟩
      · rw [upd_same, List.map_replicate]
      · have e : (List.replicate ys.length true).all id = true := by simp
        rw [e]
        exact q _ (s1.trans (sm.trans (same_new hD _)))
theorem ok_law_same (F : Fun K "_law_same" "_law_same" s_law_same f fd) (B : NoG mg)
    (b_law_same : Binds K fd ["_law_found", "_law_due"] []) (k_law_same : PySem.W.keepIn K (.ref f) = true) (m_law_same : mg "_law_same" = some (.ref f)) : ∀ n, FnOk P w K mg base CX0 (n + 1) f fd ["_law_found", "_law_due"] (spSame n)
  | 0 => ok_same_of (sp := spVoid) F B ok_void (fun m h => nomatch h) b_law_same k_law_same m_law_same
  | n + 1 => ok_same_of F B (ok_law_same F B b_law_same k_law_same m_law_same n) (fun m h => by injection h with h; rw [h]) b_law_same k_law_same m_law_same
end
end CL
set_option maxHeartbeats 4000000
namespace CL
open PySem L2 BV
seal PE PT PW PA PS PSs PTs PI PG PGs PO
abbrev s_law_number : Stmt := top 12
theorem sc_law_number : FnScope ["_law_cell"] ["_law_cell"] (defScope s_law_number) := ⟨rfl, rfl, rfl, by decide +kernel, rfl, by decide +kernel, by decide +kernel⟩
theorem p40 : (10 : Int) ^ ((40 : Int).toNat) = 10000000000000000000000000000000000000000 := by decide +kernel
theorem at3 (x y z : V) (k : Int) : ∃ v, atI [x, y, z] (k % 3) = some v ∧ (v = x ∨ v = y ∨ v = z) := by
  have h0 := Int.emod_nonneg k (by decide : (3 : Int) ≠ 0)
  have h1 := Int.emod_lt_of_pos k (by decide : (0 : Int) < 3)
  have hj : k % 3 = 0 ∨ k % 3 = 1 ∨ k % 3 = 2 := by omega
  rcases hj with e | e | e <;> rw [e]
  · exact ⟨x, rfl, .inl rfl⟩
  · exact ⟨y, rfl, .inr (.inl rfl)⟩
  · exact ⟨z, rfl, .inr (.inr rfl)⟩
section
variable {P : Program} {w : World} {K : PySem.W.Frag} {mg : Str → Option Value} {base : Heap} {f : Addr} {fd : FuncData} {f_law_number f_law_drawn : Addr} {d_law_number d_law_drawn : FuncData}
def spNum : Sp := fun vs H Q _ => ∃ n : Int, vs = [.int n] ∧ ∀ m : Int, Q (.int m) H
theorem ok_law_number (F : Fun K "_law_number" "_law_number" s_law_number f fd) : FnOk P w K mg base CX0 1 f fd ["_law_cell"] spNum := by
  refine F.ok sc_law_number (fun vs H Q E h => ?_) (fun cdv A outer s H vs Q E hr h => ?_)
  · obtain ⟨n, rfl, _⟩ := h
    rfl
  obtain ⟨n, rfl, q⟩ := h
  have nd := sc_law_number.nd
  have hu := hr.units0
  have pw : (0 : Int) < (10 : Int) ^ ((40 : Int).toNat) + 1 := by rw [p40]; decide
  refine ⟨_, (pss_cons (ps_if (pt_cmpR (kEq (K := K) hu) (pe_op op_mod (pv 0) pe_int) pe_int rfl) (pss_one (ps_ret (pe_op uMul (pe_op op_sub pe_int (pe_op uMul pe_int (pe_op op_mod (pe_op op_fdiv (pv 0) pe_int) pe_int))) (pe_op op_sub (pe_op op_pow pe_int pe_int) (pe_op op_mod (pe_op op_fdiv (pv 0) pe_int) pe_int))))) pss_nil)
      (pss_cons (ps_if (pt_cmpR (kEq (K := K) hu) (pe_op op_mod (pv 0) pe_int) pe_int rfl) (pss_one (ps_ret (pe_op op_mod (pe_op uMul (pv 0) pe_int) (pe_op uAdd (pe_op op_pow pe_int pe_int) pe_int)))) pss_nil)
      (pss_one (ps_ret (pe_op op_sub (pe_op op_mod (pe_op op_fdiv (pv 0) pe_int) pe_int) pe_int))))), ?_⟩
  refine ⟨_, rfl, _, _, rfl, rfl, (by decide : (0 : Int) < 7), .inl ⟨rfl, _, rfl, ite2 (fun e => ?_) (fun e => ?_)⟩⟩
  · have g4 := Int.emod_nonneg (n / 7) (by decide : (2 : Int) ≠ 0)
    have g5 := Int.emod_lt_of_pos (n / 7) (by decide : (0 : Int) < 2)
    refine ⟨_, rfl, _, _, rfl, rfl, ⟨by decide, by decide⟩, _, _, rfl, rfl, (by decide : (0 : Int) < 2), .inl ⟨_, _, rfl, rfl, .inl ⟨by decide, by decide⟩, _, _, rfl, rfl, ?_⟩⟩
    exact ⟨_, _, rfl, rfl, ⟨by decide, by decide, by decide⟩, _, rfl, _, _, rfl, rfl, ⟨by decide, by decide⟩, _, _, rfl, rfl, (by decide : (0 : Int) < 3), _, _, rfl, rfl, .inl ⟨_, _, rfl, rfl, .inl ⟨by omega, by omega⟩, q _⟩⟩
  refine ⟨_, rfl, _, _, rfl, rfl, (by decide : (0 : Int) < 7), .inl ⟨rfl, _, rfl, ite2 (fun e => ?_) (fun e => ?_)⟩⟩
  · exact ⟨_, rfl, .inl ⟨_, _, rfl, rfl, .inr ⟨by decide, by decide⟩, _, _, rfl, rfl, ⟨by decide, by decide, by decide⟩, .inl ⟨_, _, rfl, rfl, _, _, rfl, rfl, pw, q _⟩⟩⟩
  · exact ⟨_, rfl, _, _, rfl, rfl, ⟨by decide, by decide⟩, _, _, rfl, rfl, (by decide : (0 : Int) < 41), _, _, rfl, rfl, q _⟩
end
end CL
namespace SW
open PySem L2 BV CL
inductive Vl where
  | sc (v : V) | cell (k : Nat)
inductive Cl where
  | pair (a b : Vl) | fn (n : Int) (vs : List Vl)
def scV : V → Bool
  | .int _ => true
  | .bl _ => true
  | .non => true
  | _ => false
theorem scV_sc {v : V} (h : scV v = true) : isSc v = true := by cases v <;> first | rfl | (cases h; done)
def VAt (H : Hp) : Vl → V → Prop
  | .sc x, v => v = x ∧ scV x = true
  | .cell k, v => ∃ p : Addr, v = .ref p ∧ H p = some (.tup [.str "cell", .int (k : Nat)])
def vin : Cl → List Vl
  | .pair a b => [a, b]
  | .fn _ vs => vs
def ClAt (H : Hp) : Cl → V → Prop
  | .pair a b, u => ∃ (p : Addr) (x y : V), u = .ref p ∧ H p = some (.tup [.str "pair", x, y]) ∧ VAt H a x ∧ VAt H b y
  | .fn n vs, u => ∃ (p q : Addr) (xs : List V), u = .ref p ∧ H p = some (.tup [.str "fn", .int n, .ref q]) ∧ H q = some (.tup xs) ∧ All2 (VAt H) vs xs ∧ vs.length ≤ 10
theorem VAt.mo {H H' : Hp} (m : Mo H H') : ∀ {x : Vl} {v : V}, VAt H x v → VAt H' x v
  | .sc _, _, h => h
  | .cell _, _, ⟨p, e, h⟩ => ⟨p, e, m _ _ h⟩
theorem ClAt.mo {H H' : Hp} (m : Mo H H') : ∀ {c : Cl} {u : V}, ClAt H c u → ClAt H' c u
  | .pair _ _, _, ⟨p, x, y, e, h, h1, h2⟩ => ⟨p, x, y, e, m _ _ h, h1.mo m, h2.mo m⟩
  | .fn _ _, _, ⟨p, q, xs, e, h, h1, h2, h3⟩ => ⟨p, q, xs, e, m _ _ h, m _ _ h1, h2.imp fun _ _ z => VAt.mo m z, h3⟩
def Okc (cs : List Cl) : Prop := ∀ (k j : Nat) (c : Cl), cs[k]? = some c → Vl.cell j ∈ vin c → j < cs.length
def Okv (n : Nat) (vs : List Vl) : Prop := ∀ j, Vl.cell j ∈ vs → j < n
inductive Rc (cs : List Cl) (vs : List Vl) : Nat → Prop where
  | root {k : Nat} : Vl.cell k ∈ vs → Rc cs vs k
  | step {k j : Nat} {c : Cl} : Rc cs vs k → cs[k]? = some c → Vl.cell j ∈ vin c → Rc cs vs j
theorem Rc.lt {cs : List Cl} {vs : List Vl} (h : Okc cs) (hv : Okv cs.length vs) {k : Nat} (r : Rc cs vs k) : k < cs.length := by
  cases r with
  | root h => exact hv _ h
  | step _ hc hj => exact h _ _ _ hc hj
structure Wlk (cs : List Cl) (vs : List Vl) (F : List Nat) (W : List Vl) : Prop where
  f : ∀ k ∈ F, Rc cs vs k
  w : ∀ k, Vl.cell k ∈ W → Rc cs vs k
  r : ∀ k, Vl.cell k ∈ vs → k ∈ F ∨ Vl.cell k ∈ W
  c : ∀ k c j, k ∈ F → cs[k]? = some c → Vl.cell j ∈ vin c → j ∈ F ∨ Vl.cell j ∈ W
  nd : F.Nodup
theorem Wlk.start (cs : List Cl) (vs : List Vl) : Wlk cs vs [] vs :=
  ⟨fun _ h => (by cases h), fun _ h => .root h, fun _ h => .inr h, fun _ _ _ h => (by cases h), List.nodup_nil⟩
theorem ndSnoc : ∀ {l : List Nat} {k : Nat}, l.Nodup → k ∉ l → (l ++ [k]).Nodup
  | [], k, _, _ => List.nodup_cons.mpr ⟨by simp, List.nodup_nil⟩
  | x :: r, k, h, hk => by
    rw [List.nodup_cons] at h
    rw [List.cons_append, List.nodup_cons]
    refine ⟨fun z => ?_, ndSnoc h.2 fun z => hk (List.mem_cons_of_mem _ z)⟩
    rcases List.mem_append.mp z with z | z
    · exact h.1 z
    · rw [List.mem_singleton] at z
      exact hk (by rw [z]; exact List.mem_cons_self ..)
theorem mem_last {α : Type} {x y : α} {xs : List α} (h : y ∈ xs ++ [x]) : y = x ∨ y ∈ xs := by
  rcases List.mem_append.mp h with h | h
  · exact .inr h
  · exact .inl (List.mem_singleton.mp h)
theorem Wlk.drop {cs : List Cl} {vs W : List Vl} {F : List Nat} {x : Vl} (h : Wlk cs vs F (W ++ [x])) (hx : ∀ k, x = .cell k → k ∈ F) : Wlk cs vs F W where
  f := h.f
  w := fun k hk => h.w k (List.mem_append_left _ hk)
  r := fun k hk => by
    rcases h.r k hk with h1 | h1
    · exact .inl h1
    · rcases mem_last h1 with h2 | h2
      · exact .inl (hx k h2.symm)
      · exact .inr h2
  c := fun k c j hk hc hj => by
    rcases h.c k c j hk hc hj with h1 | h1
    · exact .inl h1
    · rcases mem_last h1 with h2 | h2
      · exact .inl (hx j h2.symm)
      · exact .inr h2
  nd := h.nd
theorem Wlk.add {cs : List Cl} {vs W : List Vl} {F : List Nat} {k : Nat} {c : Cl} (h : Wlk cs vs F (W ++ [.cell k])) (hk : k ∉ F) (hc : cs[k]? = some c) : Wlk cs vs (F ++ [k]) (W ++ vin c) := by
  have hR := h.w k (List.mem_append_right _ (List.mem_singleton.mpr rfl))
  refine ⟨fun j hj => ?_, fun j hj => ?_, fun j hj => ?_, fun i c' j hi hc' hj => ?_, ?_⟩
  · rcases mem_last hj with rfl | hj
    · exact hR
    · exact h.f j hj
  · rcases List.mem_append.mp hj with hj | hj
    · exact h.w j (List.mem_append_left _ hj)
    · exact .step hR hc hj
  · rcases h.r j hj with h1 | h1
    · exact .inl (List.mem_append_left _ h1)
    · rcases mem_last h1 with h2 | h2
      · have : j = k := by injection h2
        exact .inl (by rw [this]; exact List.mem_append_right _ (List.mem_singleton.mpr rfl))
      · exact .inr (List.mem_append_left _ h2)
  · rcases mem_last hi with rfl | hi
    · rw [hc] at hc'
      cases hc'
      exact .inr (List.mem_append_right _ hj)
    · rcases h.c i c' j hi hc' hj with h1 | h1
      · exact .inl (List.mem_append_left _ h1)
      · rcases mem_last h1 with h2 | h2
        · have : j = k := by injection h2
          exact .inl (by rw [this]; exact List.mem_append_right _ (List.mem_singleton.mpr rfl))
        · exact .inr (List.mem_append_left _ h2)
  · exact ndSnoc h.nd hk
theorem Wlk.done {cs : List Cl} {vs : List Vl} {F : List Nat} (h : Wlk cs vs F []) (k : Nat) : k ∈ F ↔ Rc cs vs k := by
  refine ⟨h.f k, fun r => ?_⟩
  induction r with
  | root hk =>
    rcases h.r _ hk with h1 | h1
    · exact h1
    · cases h1
  | step _ hc hj ih =>
    rcases h.c _ _ _ ih hc hj with h1 | h1
    · exact h1
    · cases h1
structure Kept (cs : List Cl) (vs : List Vl) (ks : List Nat) : Prop where
  up : List.Pairwise (· < ·) ks
  is : ∀ k, k ∈ ks ↔ Rc cs vs k
def mv (ks : List Nat) : Vl → Vl
  | .sc v => .sc v
  | .cell k => .cell (ks.idxOf k)
def mvc (ks : List Nat) : Cl → Cl
  | .pair a b => .pair (mv ks a) (mv ks b)
  | .fn n vs => .fn n (vs.map (mv ks))
end SW
set_option maxHeartbeats 4000000
namespace SW
open PySem L2 BV CL
seal PE PT PW PA PS PSs PTs PI PG PGs PO
abbrev s_is_cell : Stmt := top 2
abbrev s_values_in : Stmt := top 6
abbrev s_moved : Stmt := top 8
abbrev s_moved_cell : Stmt := top 7
theorem sc_is_cell : FnScope ["value"] ["value"] (defScope s_is_cell) := ⟨rfl, rfl, rfl, by decide +kernel, rfl, by decide +kernel, by decide +kernel⟩
theorem sc_values_in : FnScope ["cell"] ["cell"] (defScope s_values_in) := ⟨rfl, rfl, rfl, by decide +kernel, rfl, by decide +kernel, by decide +kernel⟩
theorem sc_moved : FnScope ["values", "new_numbers"] ["values", "new_numbers"] (defScope s_moved) := ⟨rfl, rfl, rfl, by decide +kernel, rfl, by decide +kernel, by decide +kernel⟩
theorem sc_moved_cell : FnScope ["cell", "new_numbers", "values"] ["cell", "new_numbers"] (defScope s_moved_cell) := ⟨rfl, rfl, rfl, by decide +kernel, rfl, by decide +kernel, by decide +kernel⟩
structure NoG2 (mg : Str → Option Value) : Prop where
  sorted_ : mg "sorted" = none
def isC : Vl → Bool
  | .cell _ => true
  | _ => false
section
variable {P : Program} {w : World} {K : PySem.W.Frag} {mg : Str → Option Value} {base : Heap} {f : Addr} {fd : FuncData} {C : Addr} {mf : Str → Addr} {md : Str → FuncData} {f_is_cell f_values_in f_moved f_moved_cell : Addr} {d_is_cell d_values_in d_moved d_moved_cell : FuncData}
def spIsCell : Sp := fun vs H Q _ => ∃ (x : Vl) (v : V), vs = [v] ∧ VAt H x v ∧ Q (.bl (isC x)) H
theorem ok_is_cell (F : Fun K "is_cell" "is_cell" s_is_cell f fd) (B : NoG mg) : FnOk P w K mg base CX0 1 f fd ["value"] spIsCell := by
  refine F.ok sc_is_cell (fun vs H Q E h => ?_) (fun cdv A outer s H vs Q E hr h => ?_)
  · obtain ⟨x, v, rfl, _⟩ := h
    rfl
  obtain ⟨x, v, rfl, hx, q⟩ := h
  refine ⟨_, (pss_one (ps_ret (pe_callB (k_isi (K := K)) rfl B.isinstance_ bt_isinstance (pa_cons (pv 0) (pa_cons (pe_bltn (v := .ty "tuple") rfl B.tuple_ bt_tuple rfl) pa_nil))))), ?_⟩
  cases x with
  | cell k =>
    obtain ⟨p, rfl, hp⟩ := hx
    exact ⟨_, rfl, _, _, _, _, rfl, .tup hp, kit_tt, q⟩
  | sc x =>
    obtain ⟨rfl, hs⟩ := hx
    cases v with
    | int n => exact ⟨_, rfl, _, _, _, _, rfl, .int _, by rfl, q⟩
    | bl b => exact ⟨_, rfl, _, _, _, _, rfl, .bl _, by rfl, q⟩
    | non => exact ⟨_, rfl, _, _, _, _, rfl, .non, by rfl, q⟩
    | _ => cases hs
def spValuesIn : Sp := fun vs H Q _ => ∃ (c : Cl) (u : V), vs = [u] ∧ ClAt H c u ∧ ∀ q xs H', Same H H' → H' q = some (.tup xs) → All2 (VAt H') (vin c) xs → Q (.ref q) H'
theorem ok_values_in (F : Fun K "values_in" "values_in" s_values_in f fd) : FnOk P w K mg base CX0 1 f fd ["cell"] spValuesIn := by
  refine F.ok sc_values_in (fun vs H Q E h => ?_) (fun cdv A outer s H vs Q E hr h => ?_)
  · obtain ⟨c, u, rfl, _⟩ := h
    rfl
  obtain ⟨c, u, rfl, hc, q⟩ := h
  have hu := hr.units0
  refine ⟨_, (pss_one (ps_ret (pe_ifExp (pt_cmpR (kEq (K := K) hu) (pe_ix (kIx (K := K) (w := w)) (pv 0) pe_int (fun _ _ => rfl)) pe_str rfl) (pe_ix (kIx (K := K) (w := w)) (pv 0) pe_int (fun _ _ => rfl)) (pe_slice (kSl3 (K := K)) (pv 0) (po_some pe_int) po_none)))), ?_⟩
  cases c with
  | pair a b =>
    obtain ⟨p, x, y, rfl, hp, h1, h2⟩ := hc
    refine ⟨_, rfl, .inr (.inl ⟨p, _, 0, _, rfl, rfl, SqT.of hp, rfl, .inl ⟨rfl, _, rfl, ifF (by decide +kernel) ?_⟩⟩)⟩
    refine ⟨_, rfl, _, rfl, .inl (.inr ⟨p, _, rfl, SqT.of hp, by rintro ⟨z, _⟩; revert z; show HT.sIx 3 0 (some ((1 : Nat) : Int)) = 0 → False; rw [HT.sIx_nat]; decide, fun t ht => ?_⟩)⟩
    have s1 := same_new ht (.tup [x, y])
    exact q t [x, y] _ s1 upd_same (.cons (h1.mo (tups_of s1)) (.cons (h2.mo (tups_of s1)) .nil))
  | fn n vs =>
    obtain ⟨p, r, xs, rfl, hp, hr2, h1, _⟩ := hc
    refine ⟨_, rfl, .inr (.inl ⟨p, _, 0, _, rfl, rfl, SqT.of hp, rfl, .inl ⟨rfl, _, rfl, ifT (by decide +kernel) ?_⟩⟩)⟩
    exact ⟨_, rfl, .inr (.inl ⟨p, _, 2, _, rfl, rfl, SqT.of hp, rfl, q r xs H (Same.refl _) hr2 h1⟩)⟩
def NN (ks : List Nat) (kvs : List (Key × V)) : Prop := ∀ k, k ∈ ks → valV kvs (.inl (k : Int)) = some (.int (ks.idxOf k : Nat))
def spMoved : Sp := fun vs H Q _ => ∃ (a d : Addr) (xs : List V) (ws : List Vl) (ks : List Nat) (kvs : List (Key × V)), vs = [.ref a, .ref d] ∧ (H a = some (.lst xs) ∨ H a = some (.tup xs)) ∧ All2 (VAt H) ws xs ∧ xs.length ≤ 1000 ∧ H d = some (.dK kvs) ∧ NN ks kvs ∧ (∀ k, Vl.cell k ∈ ws → k ∈ ks) ∧
  ∀ l ys H', Same H H' → H l = none → H' l = some (.lst ys) → All2 (VAt H') (ws.map (mv ks)) ys → Q (.ref l) H'
theorem ok_moved (F : Fun K "moved" "moved" s_moved f fd)
    (G_is_cell : FnOk P w K mg base CX0 1 f_is_cell d_is_cell ["value"] spIsCell) (b_is_cell : Binds K d_is_cell ["value"] []) (k_is_cell : PySem.W.keepIn K (.ref f_is_cell) = true) (m_is_cell : mg "is_cell" = some (.ref f_is_cell)) :
    FnOk P w K mg base CX0 2 f fd ["values", "new_numbers"] spMoved := by
  refine F.ok sc_moved (fun vs H Q E h => ?_) (fun cdv A outer s H vs Q E hr h => ?_)
  · obtain ⟨a, d, xs, ws, ks, kvs, rfl, _⟩ := h
    rfl
  obtain ⟨a, d, xs, ws, ks, kvs, rfl, ha, hA, hn, hd, hN, hin, q⟩ := h
  have zz : (4000 : Nat) ≤ sizeLine := by decide
  have hlen := hA.len
  refine ⟨_, (pss_one (ps_ret (pe_comp (CompScope.mk (N := ["values", "new_numbers"]) (sc := defScope s_moved) (caps := [1]) (ns := ["new_numbers"]) (by decide +kernel) rfl (by decide +kernel) rfl (by decide +kernel) rfl (by decide +kernel) (by decide +kernel)) rfl rfl rfl (k_iany (K := K) (pv 0)) (fun _ _ _ _ _ => pts_nil) (fun _ _ _ _ _ => (pe_ifExp (k_truth (K := K) (pe_call G_is_cell (hr.mono (by first | decide | omega)) rfl m_is_cell k_is_cell b_is_cell .nil pass0 (pa_cons (pv 0) pa_nil)) (fun _ => rfl)) (pe_tup (pa_cons pe_str (pa_cons (pe_dget (Nat.lt_of_le_of_lt (Nat.add_le_add_left (by decide : 1 ≤ 64) _) hr.units) (pv 1) (pe_ix (kIx (K := K) (w := w)) (pv 0) pe_int (fun _ _ => rfl)) (fun _ _ => rfl)) pa_nil))) (pv 0)))))), ?_⟩
  have step : ∀ (i : Nat) (x : V) (zs : List V) (H1 : Hp), xs[i]? = some x → (zs.length = i ∧ Same H H1 ∧ All2 (VAt H1) ((ws.take i).map (mv ks)) zs) → ∃ x', ws[i]? = some x' ∧ VAt H1 x' x ∧ ∀ H2 y, Same H1 H2 → VAt H2 (mv ks x') y → ((zs ++ [y]).length = i + 1 ∧ Same H H2 ∧ All2 (VAt H2) ((ws.take (i + 1)).map (mv ks)) (zs ++ [y])) := by
    rintro i x zs H1 hx ⟨rfl, s1, hz⟩
    obtain ⟨x', hx', hv⟩ := hA.get hx
    refine ⟨x', hx', hv.mo (tups_of s1), fun H2 y s2 hy => ⟨by rw [List.length_append]; rfl, s1.trans s2, ?_⟩⟩
    rw [List.take_succ, hx', List.map_append]
    exact (hz.imp fun _ _ z => VAt.mo (tups_of s2) z).app (.cons hy .nil)
  have fin : ∀ zs H1, (zs.length = xs.length ∧ Same H H1 ∧ All2 (VAt H1) ((ws.take xs.length).map (mv ks)) zs) → ∀ D, H1 D = none → Q (.ref D) (upd H1 D (.lst zs)) := by
    rintro zs H1 ⟨_, s1, hz⟩ D hD
    have sD := same_new hD (.lst zs)
    rw [← hlen, List.take_length] at hz
    exact q D zs _ (s1.trans sD) (s1.free hD) upd_same (hz.imp fun _ _ z => VAt.mo (tups_of sD) z)
  rcases ha with ha | ha
  · refine ⟨_, rfl, .inl ⟨a, rfl, ⟨_, SqL.of ha⟩, comp_list (xs := xs) (fun i zs H1 => zs.length = i ∧ Same H H1 ∧ All2 (VAt H1) ((ws.take i).map (mv ks)) zs) ⟨rfl, Same.refl _, .nil⟩ ?_ ?_ fin⟩⟩
    · rintro i zs H1 hi ⟨rfl, s1, _⟩
      exact ⟨SqL.of (s1 _ _ ha), by omega⟩
    · rintro i x zs H1 hx hP
      obtain ⟨x', hx', hv, go⟩ := step i x zs H1 hx hP
      have hd1 := hP.2.1 _ _ hd
      refine noTest ⟨_, rfl, x', x, rfl, hv, isC x', rfl, ?_⟩
      cases x' with
      | sc v => exact ifF Bool.false_ne_true ⟨_, rfl, go H1 x (Same.refl _) hv⟩
      | cell k =>
        obtain ⟨p, rfl, hp⟩ := hv
        have hk := hN k (hin k (List.mem_of_getElem? hx'))
        refine ifT rfl ⟨_, rfl, _, rfl, .inr (.inl ⟨p, _, 1, _, rfl, rfl, SqT.of hp, rfl, d, _, rfl, .inl ⟨kvs, .inl (k : Int), .inl hd1, rfl, hk.symm⟩, two2, fun t ht => ?_⟩)⟩
        exact go _ (.ref t) (same_new ht _) ⟨t, rfl, upd_same⟩
  · refine ⟨_, rfl, .inr ⟨a, rfl, ⟨_, SqT.of ha⟩, comp_tup (xs := xs) (fun i zs H1 => zs.length = i ∧ Same H H1 ∧ All2 (VAt H1) ((ws.take i).map (mv ks)) zs) ⟨rfl, Same.refl _, .nil⟩ ?_ ?_ fin⟩⟩
    · rintro i zs H1 hi ⟨rfl, s1, _⟩
      exact ⟨SqT.of (s1 _ _ ha), by omega⟩
    · rintro i x zs H1 hx hP
      obtain ⟨x', hx', hv, go⟩ := step i x zs H1 hx hP
      have hd1 := hP.2.1 _ _ hd
      refine noTest ⟨_, rfl, x', x, rfl, hv, isC x', rfl, ?_⟩
      cases x' with
      | sc v => exact ifF Bool.false_ne_true ⟨_, rfl, go H1 x (Same.refl _) hv⟩
      | cell k =>
        obtain ⟨p, rfl, hp⟩ := hv
        have hk := hN k (hin k (List.mem_of_getElem? hx'))
        refine ifT rfl ⟨_, rfl, _, rfl, .inr (.inl ⟨p, _, 1, _, rfl, rfl, SqT.of hp, rfl, d, _, rfl, .inl ⟨kvs, .inl (k : Int), .inl hd1, rfl, hk.symm⟩, two2, fun t ht => ?_⟩)⟩
        exact go _ (.ref t) (same_new ht _) ⟨t, rfl, upd_same⟩
def spMovedCell : Sp := fun vs H Q _ => ∃ (u : V) (d : Addr) (c : Cl) (ks : List Nat) (kvs : List (Key × V)), vs = [u, .ref d] ∧ ClAt H c u ∧ H d = some (.dK kvs) ∧ NN ks kvs ∧ (∀ k, Vl.cell k ∈ vin c → k ∈ ks) ∧ ∀ u' H', Same H H' → ClAt H' (mvc ks c) u' → Q u' H'
theorem ok_moved_cell (F : Fun K "moved_cell" "moved_cell" s_moved_cell f fd) (B : NoG mg)
    (G_values_in : FnOk P w K mg base CX0 1 f_values_in d_values_in ["cell"] spValuesIn) (b_values_in : Binds K d_values_in ["cell"] []) (k_values_in : PySem.W.keepIn K (.ref f_values_in) = true) (m_values_in : mg "values_in" = some (.ref f_values_in))
    (G_moved : FnOk P w K mg base CX0 2 f_moved d_moved ["values", "new_numbers"] spMoved) (b_moved : Binds K d_moved ["values", "new_numbers"] []) (k_moved : PySem.W.keepIn K (.ref f_moved) = true) (m_moved : mg "moved" = some (.ref f_moved)) :
    FnOk P w K mg base CX0 3 f fd ["cell", "new_numbers"] spMovedCell := by
  refine F.ok sc_moved_cell (fun vs H Q E h => ?_) (fun cdv A outer s H vs Q E hr h => ?_)
  · obtain ⟨u, d, c, ks, kvs, rfl, _⟩ := h
    rfl
  obtain ⟨u, d, c, ks, kvs, rfl, hc, hd, hN, hin, q⟩ := h
  have nd := sc_moved_cell.nd
  have hu := hr.units0
  have zz : (4000 : Nat) ≤ sizeLine := by decide
  have hl10 : (vin c).length ≤ 10 := by
    cases c with
    | pair a b => show 2 ≤ 10; decide
    | fn n vs => obtain ⟨_, _, _, _, _, _, _, h⟩ := hc; exact h
  refine ⟨_, (pss_cons (ps_set (i := 2) nd rfl (Or.inl rfl) (pe_callTy (k_tuple (K := K)) rfl B.tuple_ bt_tuple (pa_cons (pe_call G_moved (hr.mono (by first | decide | omega)) rfl m_moved k_moved b_moved .nil pass0 (pa_cons (pe_call G_values_in (hr.mono (by first | decide | omega)) rfl m_values_in k_values_in b_values_in .nil pass0 (pa_cons (pv 0) pa_nil)) (pa_cons (pv 1) pa_nil))) pa_nil)))
      (pss_cons (ps_if (pt_cmpR (kEq (K := K) hu) (pe_ix (kIx (K := K) (w := w)) (pv 0) pe_int (fun _ _ => rfl)) pe_str rfl) (pss_one (ps_ret (pe_tup (pa_cons pe_str (pa_cons (pe_ix (kIx (K := K) (w := w)) (pv 0) pe_int (fun _ _ => rfl)) (pa_cons (pv 2) pa_nil)))))) pss_nil)
      (pss_one (ps_ret (pe_op (kAdd3 (K := K)) (pe_tup (pa_cons pe_str pa_nil)) (pv 2)))))), ?_⟩
  refine ⟨_, rfl, c, u, rfl, hc, fun r xs H1 s1 hr1 hA => ⟨_, rfl, r, d, xs, vin c, ks, kvs, rfl, .inr hr1, hA, by have := hA.len; omega, s1 _ _ hd, hN, hin, fun l ys H2 s2 hl hl2 hA2 => ⟨l, ys, rfl, .inl ⟨SqL.of hl2, fun t ht => ?_⟩⟩⟩⟩
  have s3 := s1.trans (s2.trans (same_new ht (.tup ys)))
  have ht3 : upd H2 t (.tup ys) t = some (.tup ys) := upd_same
  have hA3 := hA2.imp fun _ _ z => VAt.mo (tups_of (same_new ht (.tup ys))) z
  generalize upd H2 t (.tup ys) = H3 at s3 ht3 hA3 ⊢
  have hc3 : ClAt H3 c u := hc.mo (tups_of s3)
  cases c with
  | pair a b =>
    obtain ⟨p, x, y, rfl, hp, h1, h2⟩ := hc3
    refine ⟨_, rfl, .inr (.inl ⟨p, _, 0, _, rfl, rfl, SqT.of hp, rfl, .inl ⟨rfl, _, rfl, ifF (by decide +kernel) ?_⟩⟩)⟩
    refine ⟨one1, fun o ho => ⟨_, rfl, ?_⟩⟩
    have so := same_new ho (.tup [.str "pair"])
    have hA4 := hA3.imp fun _ _ z => VAt.mo (tups_of so) z
    cases hA4 with
    | cons ha hA4 =>
      cases hA4 with
      | cons hb hA4 =>
        cases hA4
        refine .inr (.inr (.inl ⟨o, t, [.str "pair"], _, rfl, rfl, SqT.of upd_same, SqT.of (so _ _ ht3), (by intro z; cases z), (by show 3 ≤ sizeLine; decide), (fun z => by cases z), fun _ p' hp' => ?_⟩))
        exact q (.ref p') _ (s3.trans (so.trans (same_new hp' _))) ⟨p', _, _, rfl, upd_same, ha.mo (tups_of (same_new hp' _)), hb.mo (tups_of (same_new hp' _))⟩
  | fn n vs =>
    obtain ⟨p, r', xs', rfl, hp, hr2, h1, h10⟩ := hc3
    refine ⟨_, rfl, .inr (.inl ⟨p, _, 0, _, rfl, rfl, SqT.of hp, rfl, .inl ⟨rfl, _, rfl, ifT (by decide +kernel) ?_⟩⟩)⟩
    refine ⟨_, rfl, .inr (.inl ⟨p, _, 1, _, rfl, rfl, SqT.of hp, rfl, _, rfl, three3, fun p' hp' => ?_⟩)⟩
    have sp := same_new hp' (.tup [.str "fn", .int n, .ref t])
    exact q (.ref p') _ (s3.trans sp) ⟨p', t, ys, rfl, upd_same, sp _ _ ht3, hA3.imp fun _ _ z => VAt.mo (tups_of sp) z, by rw [List.length_map]; exact h10⟩
end
end SW
set_option maxHeartbeats 4000000
namespace SW
open PySem L2 BV CL
seal PE PT PW PA PS PSs PTs PI PG PGs PO
abbrev s_numbers_led_to : Stmt := top 5
theorem sc_numbers_led_to : FnScope ["cells", "values", "found", "waiting", "value"] ["cells", "values"] (defScope s_numbers_led_to) := ⟨rfl, rfl, rfl, by decide +kernel, rfl, by decide +kernel, by decide +kernel⟩
theorem nd_len : ∀ (n : Nat) (F : List Nat), F.Nodup → (∀ k ∈ F, k < n) → F.length ≤ n
  | 0, F, _, h => by
    cases F with
    | nil => exact Nat.le_refl _
    | cons x r => exact absurd (h x (List.mem_cons_self ..)) (Nat.not_lt_zero _)
  | n + 1, F, nd, h => by
    by_cases c : n ∈ F
    · have := nd_len n (F.erase n) (nd.erase n) fun k hk => by
        have h1 := (nd.mem_erase_iff).mp hk
        have := h k h1.2
        have := h1.1
        omega
      rw [List.length_erase_of_mem c] at this
      omega
    · have := nd_len n F nd fun k hk => by
        have h1 := h k hk
        have : k ≠ n := fun e => c (e ▸ hk)
        omega
      omega
theorem all2_snoc {R : Vl → V → Prop} {W : List Vl} {x : Vl} {ys : List V} (h : All2 R (W ++ [x]) ys) : ∃ ys' y, ys = ys' ++ [y] ∧ All2 R W ys' ∧ R x y := by
  induction W generalizing ys with
  | nil =>
    cases h with
    | cons h t =>
      cases t
      exact ⟨[], _, rfl, .nil, h⟩
  | cons w W ih =>
    cases h with
    | cons h t =>
      obtain ⟨ys', y, rfl, h1, h2⟩ := ih t
      exact ⟨_ :: ys', y, rfl, .cons h h1, h2⟩
theorem upd_at {H : Hp} {a b : Addr} {o o' : HO} (h : H b = some o) (n : b ≠ a) : upd H a o' b = some o := by rw [upd_ne n]; exact h
def keysOf (F : List Nat) : List Key := F.map fun (k : Nat) => (Sum.inl (k : Int) : Key)
theorem keys_mem {F : List Nat} {k : Nat} : (Sum.inl (k : Int) : Key) ∈ keysOf F ↔ k ∈ F := by
  unfold keysOf
  constructor
  · intro h
    obtain ⟨j, hj, e⟩ := List.mem_map.mp h
    have : (j : Int) = (k : Int) := Sum.inl.inj e
    have : j = k := by omega
    subst this; exact hj
  · exact fun h => List.mem_map.mpr ⟨k, h, rfl⟩
theorem val_mem {kvs : List (Key × V)} {F : List Nat} (h : kvs.map (·.1) = keysOf F) (k : Nat) : (valV kvs (.inl (k : Int))).isSome = decide (k ∈ F) := by
  rw [← valV_any, Bool.eq_iff_iff, List.any_eq_true, decide_eq_true_iff, ← keys_mem, ← h]
  constructor
  · rintro ⟨kv, h1, h2⟩
    have e : kv.1 = .inl (k : Int) := of_decide_eq_true h2
    exact List.mem_map.mpr ⟨kv, h1, e⟩
  · intro h1
    obtain ⟨kv, h2, e⟩ := List.mem_map.mp h1
    exact ⟨kv, h2, decide_eq_true e⟩
section
variable {P : Program} {w : World} {K : PySem.W.Frag} {mg : Str → Option Value} {base : Heap} {f : Addr} {fd : FuncData} {C : Addr} {mf : Str → Addr} {md : Str → FuncData} {f_is_cell f_values_in : Addr} {d_is_cell d_values_in : FuncData}
def iv (xs : List Nat) : List V := xs.map fun i => V.int (i : Nat)
def stN (o v d wl : Addr) (a : Option V) : St := [some (.ref o), some (.ref v), some (.ref d), some (.ref wl), a]
def spLed (C : Addr) : Sp := fun vs H Q _ => ∃ (o L v : Addr) (us xs : List V) (cs : List Cl) (ws : List Vl), vs = [.ref o, .ref v] ∧ CAt C H o L us ∧ All2 (ClAt H) cs us ∧ H v = some (.lst xs) ∧ All2 (VAt H) ws xs ∧ Okc cs ∧ Okv cs.length ws ∧ cs.length ≤ 63 ∧ xs.length ≤ 100 ∧
  ∀ l ks H', Same H H' → H l = none → H' l = some (.lst (iv ks)) → Kept cs ws ks → Q (.ref l) H'
theorem ok_numbers_led_to (F : Fun K "numbers_led_to" "numbers_led_to" s_numbers_led_to f fd) (B : NoG mg) (B2 : NoG2 mg) (RC : RCls K C mf md)
    (G_at : FnOk P w K mg base CX0 1 (mf "at") (md "at") ["self", "value"] (spAt C))
    (G_is_cell : FnOk P w K mg base CX0 1 f_is_cell d_is_cell ["value"] spIsCell) (b_is_cell : Binds K d_is_cell ["value"] []) (k_is_cell : PySem.W.keepIn K (.ref f_is_cell) = true) (m_is_cell : mg "is_cell" = some (.ref f_is_cell))
    (G_values_in : FnOk P w K mg base CX0 1 f_values_in d_values_in ["cell"] spValuesIn) (b_values_in : Binds K d_values_in ["cell"] []) (k_values_in : PySem.W.keepIn K (.ref f_values_in) = true) (m_values_in : mg "values_in" = some (.ref f_values_in)) :
    FnOk P w K mg base CX0 2 f fd ["cells", "values"] (spLed C) := by
  refine F.ok sc_numbers_led_to (fun vs H Q E h => ?_) (fun cdv A outer s H vs Q E hr h => ?_)
  · obtain ⟨o, L, v, us, xs, cs, ws, rfl, _⟩ := h
    rfl
  obtain ⟨o, L, v, us, xs, cs, ws, rfl, hC, hU, hv, hX, hO, hV, hn, hx, q⟩ := h
  have nd := sc_numbers_led_to.nd
  have hu := hr.units0
  have zz : (4000 : Nat) ≤ sizeLine := by decide
  obtain ⟨dx, ho, hL⟩ := id hC
  refine ⟨_, (pss_cons (ps_set (i := 2) nd rfl (Or.inl rfl) pe_dnewK)
      (pss_cons (ps_set (i := 3) nd rfl (Or.inl rfl) (pe_callTy (k_list (K := K)) rfl B.list_ bt_list (pa_cons (pv 1) pa_nil)))
      (pss_cons (ps_cut (ps_while PassesOwn.never (k_truth (K := K) (pv 3) (fun _ => rfl)) (pss_cons (ps_set (i := 4) nd rfl (Or.inl rfl) (k_bm0 (K := K) PySem.F.plainAttrs_list PySem.F.slot_list_pop PySem.F.type_list_pop mt_pop (pv 3)))
      (pss_one (ps_cut (ps_if (PW.pt (pw_and (k_truth (K := K) (pe_call G_is_cell (hr.mono (by first | decide | omega)) rfl m_is_cell k_is_cell b_is_cell .nil pass0 (pa_cons (pv 4) pa_nil)) (fun _ => rfl)) (pw_and1 (pt_cmpR (kNotInD hr.units) (pe_ix (kIx (K := K) (w := w)) (pv 4) pe_int (fun _ _ => rfl)) (pv 2) rfl)))) (pss_cons (ps_asg pe_bl (pg_sub (pv 2) (pe_ix (kIx (K := K) (w := w)) (pv 4) pe_int (fun _ _ => rfl)) (set_dict hr.units)))
      (pss_one (ps_expr (k_bm (K := K) PySem.F.plainAttrs_list PySem.F.slot_list_extend PySem.F.type_list_extend (k_extendT (K := K)) (pv 3) (pa_cons (pe_call G_values_in (hr.mono (by first | decide | omega)) rfl m_values_in k_values_in b_values_in .nil pass0 (pa_cons (pe_meth (pv 0) RC.cl RC.m_at G_at (hr.mono (by omega)) RC.b_at .nil pass0 (pa_cons (pv 4) pa_nil)) pa_nil)) pa_nil))))) pss_nil))))))
      (pss_one (ps_ret (pe_callB (k_sortedD rfl) rfl B2.sorted_ bt_sorted (pa_cons (pv 2) pa_nil))))))), ?_⟩
  refine fun d hd => ⟨_, rfl, v, xs, rfl, .inl (SqL.of ((same_new hd _) _ _ hv)), fun wl hwl => ?_⟩
  have sd := same_new hd (.dK [])
  have s1 := sd.trans (same_new hwl (.lst xs))
  have hd1 : upd (upd H d (.dK [])) wl (.lst xs) d = some (.dK []) := (same_new hwl (.lst xs)) _ _ upd_same
  have hw1 : upd (upd H d (.dK [])) wl (.lst xs) wl = some (.lst xs) := upd_same
  have hwH : H wl = none := sd.free hwl
  have ndw : d ≠ wl := ne_of hd1 hw1 (by intro z; cases z)
  generalize upd (upd H d (.dK [])) wl (.lst xs) = H1 at s1 hd1 hw1 ⊢
  have wd' : ∀ (Hx : Hp) (o : HO), Same H Hx → Same H (upd Hx d o) := fun Hx o a x u h => by rw [upd_ne (fun e => by subst e; rw [hd] at h; cases h)]; exact a _ _ h
  have ww : ∀ (Hx : Hp) (o : HO), Same H Hx → Same H (upd Hx wl o) := fun Hx o a x u h => by rw [upd_ne (fun e => by subst e; rw [hwH] at h; cases h)]; exact a _ _ h
  refine ⟨fun σ H' => ∃ a F kvs, σ = stN o v d wl a ∧ Same H H' ∧ H' d = some (.dK kvs) ∧ kvs.map (·.1) = keysOf F ∧ Wlk cs ws F [], ?_, ?_⟩
  · refine ⟨fun m σ H' => ∃ a F kvs W ys, σ = stN o v d wl a ∧ Same H H' ∧ H' d = some (.dK kvs) ∧ kvs.map (·.1) = keysOf F ∧ H' wl = some (.lst ys) ∧ All2 (VAt H') W ys ∧ Wlk cs ws F W ∧ m = (cs.length - F.length) * 11 + W.length ∧ W.length ≤ 100 + 10 * F.length, ?_, ?_⟩
    · refine ⟨_, none, [], [], ws, xs, rfl, s1, hd1, rfl, hw1, hX.imp fun _ _ z => VAt.mo (tups_of s1) z, Wlk.start cs ws, rfl, ?_⟩
      have := hX.len
      show ws.length ≤ 100 + 0
      omega
    rintro m σ H' ⟨a, F, kvs, W, ys, rfl, s', hd', hkv, hw', hA, hWk, rfl, hWl⟩
    have hFn := nd_len cs.length F hWk.nd fun k hk => (hWk.f k hk).lt hO hV
    have hkl : kvs.length = F.length := by
      have := congrArg List.length hkv
      unfold keysOf at this
      simpa using this
    rcases List.eq_nil_or_concat W with hW | ⟨W', x, hW⟩
    · subst hW
      cases hA
      exact ⟨_, rfl, false, .inl ⟨[], SqL.of hw', rfl⟩, ifF Bool.false_ne_true ⟨_, F, kvs, rfl, s', hd', hkv, hWk⟩⟩
    · rw [List.concat_eq_append] at hW
      subst hW
      obtain ⟨ys', y, rfl, hA', hxy⟩ := all2_snoc hA
      have hlW : (W' ++ [x]).length = W'.length + 1 := by rw [List.length_append]; rfl
      rw [hlW] at hWl ⊢
      refine ⟨_, rfl, true, .inl ⟨ys' ++ [y], SqL.of hw', by simp⟩, ifT rfl ?_⟩
      refine ⟨fun σ H2 => ∃ m', m' < (cs.length - F.length) * 11 + (W'.length + 1) ∧ ∃ a F kvs W ys, σ = stN o v d wl a ∧ Same H H2 ∧ H2 d = some (.dK kvs) ∧ kvs.map (·.1) = keysOf F ∧ H2 wl = some (.lst ys) ∧ All2 (VAt H2) W ys ∧ Wlk cs ws F W ∧ m' = (cs.length - F.length) * 11 + W.length ∧ W.length ≤ 100 + 10 * F.length, fun _ _ h => h, ?_⟩
      refine ⟨_, rfl, .inl ⟨rfl, _, SqL.of hw'⟩, wl, _, y, rfl, rfl, hw', by simp, ?_⟩
      rw [List.dropLast_concat]
      have s2 := ww H' (.lst ys') s'
      have hd2 := upd_at (o' := .lst ys') hd' ndw
      have hw2 : upd H' wl (.lst ys') wl = some (.lst ys') := upd_same
      have m2 : Mo H' (upd H' wl (.lst ys')) := fun b zs e => upd_at e (ne_of e hw' (by intro z; cases z))
      have hA2 := hA'.imp fun _ _ z => VAt.mo m2 z
      have hx2 := VAt.mo m2 hxy
      generalize upd H' wl (.lst ys') = H2 at s2 hd2 hw2 hA2 hx2 ⊢
      refine ⟨_, ?_, fun _ _ h => h⟩
      refine ⟨_, rfl, x, y, rfl, hx2, isC x, rfl, ?_⟩
      have same : (∀ k, x = .cell k → k ∈ F) → ∃ m', m' < (cs.length - F.length) * 11 + (W'.length + 1) ∧ ∃ a F kvs W ys, stN o v d wl (some y) = stN o v d wl a ∧ Same H H2 ∧ H2 d = some (.dK kvs) ∧ kvs.map (·.1) = keysOf F ∧ H2 wl = some (.lst ys) ∧ All2 (VAt H2) W ys ∧ Wlk cs ws F W ∧ m' = (cs.length - F.length) * 11 + W.length ∧ W.length ≤ 100 + 10 * F.length := fun hin =>
        ⟨_, Nat.lt_succ_self _, some y, F, kvs, W', ys', rfl, s2, hd2, hkv, hw2, hA2, hWk.drop hin, rfl, by omega⟩
      cases x with
      | sc z => exact ifF Bool.false_ne_true (ifF Bool.false_ne_true (same fun k e => by cases e))
      | cell k =>
        obtain ⟨p, rfl, hp⟩ := hx2
        refine ifT rfl ⟨_, rfl, .inr (.inl ⟨p, _, 1, _, rfl, rfl, SqT.of hp, rfl, _, rfl, d, _, rfl, DGet.k (k := .inl (k : Int)) hd2, _, rfl, ?_⟩)⟩
        rw [val_mem hkv]
        by_cases hk : k ∈ F
        · rw [decide_eq_true hk]
          exact ifF (by decide) (same fun j e => by cases e; exact hk)
        · rw [decide_eq_false hk]
          have hkn : k < cs.length := (hWk.w k (List.mem_append_right _ (List.mem_singleton.mpr rfl))).lt hO hV
          have hFlt : F.length < cs.length := by
            have := nd_len cs.length (F ++ [k]) (ndSnoc hWk.nd hk) fun j hj => by
              rcases mem_last hj with rfl | hj
              · exact hkn
              · exact (hWk.f j hj).lt hO hV
            rw [List.length_append] at this
            exact this
          have hvn : valV kvs (.inl (k : Int)) = none := by
            have := val_mem hkv k
            rw [decide_eq_false hk] at this
            cases h : valV kvs (.inl (k : Int)) with
            | none => rfl
            | some z => rw [h] at this; cases this
          refine ifT rfl ⟨_, rfl, _, rfl, .inr (.inl ⟨p, _, 1, _, rfl, rfl, SqT.of hp, rfl, d, _, rfl, DPut.k (k := .inl (k : Int)) hd2 (by omega), ?_⟩)⟩
          rw [putK_new _ hvn]
          have s3 := wd' H2 (.dK (kvs ++ [(.inl (k : Int), .bl true)])) s2
          have hd3 : upd H2 d (.dK (kvs ++ [(.inl (k : Int), .bl true)])) d = some (.dK (kvs ++ [(.inl (k : Int), .bl true)])) := upd_same
          have hw3 := upd_at (o' := .dK (kvs ++ [(.inl (k : Int), .bl true)])) hw2 (Ne.symm ndw)
          have m3 : Mo H2 (upd H2 d (.dK (kvs ++ [(.inl (k : Int), .bl true)]))) := fun b zs e => upd_at e (ne_of e hd2 (by intro z; cases z))
          have hA3 := hA2.imp fun _ _ z => VAt.mo m3 z
          have hp3 := m3 _ _ hp
          generalize upd H2 d (.dK (kvs ++ [(.inl (k : Int), .bl true)])) = H3 at s3 hd3 hw3 hA3 hp3 ⊢
          obtain ⟨c, hck⟩ : ∃ c, cs[k]? = some c := ⟨_, List.getElem?_eq_getElem hkn⟩
          obtain ⟨u, huk, hcu⟩ := hU.get' hck
          refine ⟨_, rfl, .inl ⟨rfl, _, SqL.of hw3⟩, _, rfl, o, dx, _, rfl, s3 _ _ ho, rfl, _, rfl, o, L, us, p, k, u, rfl, hC.same s3, hp3, huk, c, u, rfl, hcu.mo (tups_of s3), fun r zs H4 s4 hr4 hA4 => ?_⟩
          have hl10 : (vin c).length ≤ 10 := by
            cases c with
            | pair a b => show 2 ≤ 10; decide
            | fn n vs => obtain ⟨_, _, _, _, _, _, _, h⟩ := hcu; exact h
          have hzl := hA4.len
          have hyl := hA3.len
          refine ⟨wl, r, ys', zs, rfl, rfl, s4 _ _ hw3, SqT.of hr4, by omega, ?_⟩
          have m5 : Mo H4 (upd H4 wl (.lst (ys' ++ zs))) := fun b zs' e => upd_at e (ne_of e (s4 _ _ hw3) (by intro z; cases z))
          refine ⟨(cs.length - (F ++ [k]).length) * 11 + (W' ++ vin c).length, ?_, _, F ++ [k], _, W' ++ vin c, ys' ++ zs, rfl, ww _ _ (s3.trans s4), upd_at (s4 _ _ hd3) ndw, ?_, upd_same, ?_, hWk.add hk hck, rfl, ?_⟩
          · rw [List.length_append, List.length_append]
            show (cs.length - (F.length + 1)) * 11 + (W'.length + (vin c).length) < _
            omega
          · rw [List.map_append, hkv]
            unfold keysOf
            rw [List.map_append]; rfl
          · exact ((hA3.imp fun _ _ z => VAt.mo (tups_of s4) z).app hA4).imp fun _ _ z => VAt.mo m5 z
          · rw [List.length_append, List.length_append]
            show W'.length + (vin c).length ≤ 100 + 10 * (F.length + 1)
            omega
  rintro σ H' ⟨a, F, kvs, rfl, s', hd', hkv, hWk⟩
  have hFn := nd_len cs.length F hWk.nd fun k hk => (hWk.f k hk).lt hO hV
  refine ⟨_, rfl, d, kvs, F.map fun (k : Nat) => (k : Int), rfl, hd', ?_, by rw [List.length_map]; omega, fun l ns' hl hp hs => ?_⟩
  · rw [hkv, List.map_map]; rfl
  have hns : ns' = (ns'.map Int.toNat).map fun (k : Nat) => (k : Int) := by
    rw [List.map_map]
    conv => lhs; rw [← List.map_id ns']
    refine List.map_congr_left fun z hz => ?_
    obtain ⟨k, _, e⟩ := List.mem_map.mp (hp.mem_iff.mp hz)
    show z = ((z.toNat : Nat) : Int)
    rw [← e]; simp
  have hmem : ∀ k : Nat, k ∈ ns'.map Int.toNat ↔ k ∈ F := fun k => by
    constructor
    · intro hk
      obtain ⟨z, hz, e⟩ := List.mem_map.mp hk
      obtain ⟨j, hj, e2⟩ := List.mem_map.mp (hp.mem_iff.mp hz)
      have : j = k := by rw [← e, ← e2]; simp
      subst this; exact hj
    · intro hk
      exact List.mem_map.mpr ⟨(k : Int), hp.mem_iff.mpr (List.mem_map.mpr ⟨k, hk, rfl⟩), by simp⟩
  have hl' : upd H' l (.lst (ns'.map V.int)) l = some (.lst (iv (ns'.map Int.toNat))) := by
    rw [upd_same]
    congr 2
    conv => lhs; rw [hns]
    rw [List.map_map]; rfl
  refine q l (ns'.map Int.toNat) _ (s'.trans (same_new hl _)) (s'.free hl) hl' ⟨?_, fun k => (hmem k).trans (hWk.done k)⟩
  have hnd : (ns'.map Int.toNat).Nodup := by
    have h1 : (F.map fun (k : Nat) => (k : Int)).Nodup := by
      refine List.Pairwise.map _ (fun a b h => ?_) hWk.nd
      intro e; apply h; omega
    have h2 : ns'.Nodup := hp.symm.nodup h1
    rw [hns] at h2
    exact List.Pairwise.of_map _ (fun a b h e => h (by rw [e])) h2
  have hle : (ns'.map Int.toNat).Pairwise (· ≤ ·) := List.Pairwise.map _ (fun a b h => Int.toNat_le_toNat h) hs
  exact (hle.and hnd).imp fun h => Nat.lt_of_le_of_ne h.1 h.2
end
end SW
set_option maxHeartbeats 4000000
namespace SW
open PySem L2 BV CL
seal PE PT PW PA PS PSs PTs PI PG PGs PO
abbrev s_swept : Stmt := top 4
theorem sc_swept : FnScope ["cells", "values", "kept", "new_numbers", "number", "kept_cells"] ["cells", "values"] (defScope s_swept) := ⟨rfl, rfl, rfl, by decide +kernel, rfl, by decide +kernel, by decide +kernel⟩
theorem made_ok {C : Addr} {H : Hp} {o d L : Addr} (ho : H o = none) (hd : H d = none) (hn : d ≠ o) (hL : upd (upd H d (.own o)) o (.ins C d []) L = none) :
    Same H (upd (upd (upd (upd H d (.own o)) o (.ins C d [])) L (.lst [])) o (.ins C d [("in_order", .ref L)])) ∧ CAt C (upd (upd (upd (upd H d (.own o)) o (.ins C d [])) L (.lst [])) o (.ins C d [("in_order", .ref L)])) o L [] ∧ H L = none := by
  have hLo : L ≠ o := fun e => by subst e; rw [upd_same] at hL; cases hL
  have hL1 := hL
  rw [upd_ne hLo] at hL1
  have hLd : L ≠ d := fun e => by subst e; rw [upd_same] at hL1; cases hL1
  rw [upd_ne hLd] at hL1
  refine ⟨fun b x hb => ?_, ⟨d, upd_same, ?_⟩, hL1⟩
  · rw [upd_ne (ne_of_none hb ho), upd_ne (ne_of_none hb hL1), upd_ne (ne_of_none hb ho), upd_ne (ne_of_none hb hd)]; exact hb
  · rw [upd_ne hLo]; exact upd_same
theorem Kept.nd {cs : List Cl} {ws : List Vl} {ks : List Nat} (h : Kept cs ws ks) : ks.Nodup := h.up.imp fun h => Nat.ne_of_lt h
theorem idx_at {ks : List Nat} (nd : ks.Nodup) {j k : Nat} (h : ks[j]? = some k) : ks.idxOf k = j := by
  have hm := List.mem_of_getElem? h
  have hlt : ks.idxOf k < ks.length := List.idxOf_lt_length_of_mem hm
  have e : ks[ks.idxOf k]? = some k := by
    rw [List.getElem?_eq_getElem hlt, List.getElem_idxOf hlt]
  exact (List.getElem?_inj hlt nd).mp (e.trans h.symm)
def cellAt (cs : List Cl) (k : Nat) : Cl := (cs[k]?).getD (.fn 0 [])
theorem cellAt_of {cs : List Cl} {k : Nat} {c : Cl} (h : cs[k]? = some c) : cellAt cs k = c := by unfold cellAt; rw [h]; rfl
theorem iv_len (xs : List Nat) : (iv xs).length = xs.length := List.length_map ..
theorem iv_at {xs : List Nat} {t i : Nat} (h : xs[t]? = some i) : (iv xs)[t]? = some (.int (i : Nat)) := by unfold iv; rw [List.getElem?_map, h]; rfl
section
variable {P : Program} {w : World} {K : PySem.W.Frag} {mg : Str → Option Value} {base : Heap} {f fi : Addr} {fd di : FuncData} {C : Addr} {mf : Str → Addr} {md : Str → FuncData} {f_numbers_led_to f_moved f_moved_cell : Addr} {d_numbers_led_to d_moved d_moved_cell : FuncData}
def stSw (o v kl d : Addr) (a4 a5 : Option V) : St := [some (.ref o), some (.ref v), some (.ref kl), some (.ref d), a4, a5]
def spSwept (C : Addr) : Sp := fun vs H Q _ => ∃ (o L v : Addr) (us xs : List V) (cs : List Cl) (ws : List Vl), vs = [.ref o, .ref v] ∧ CAt C H o L us ∧ All2 (ClAt H) cs us ∧ H v = some (.lst xs) ∧ All2 (VAt H) ws xs ∧ Okc cs ∧ Okv cs.length ws ∧ cs.length ≤ 63 ∧ xs.length ≤ 100 ∧
  ∀ t o' L' l us' ys ks H', Same H H' → Kept cs ws ks → H' t = some (.tup [.ref o', .ref l]) → CAt C H' o' L' us' → All2 (ClAt H') (ks.map fun k => mvc ks (cellAt cs k)) us' → H' l = some (.lst ys) → All2 (VAt H') (ws.map (mv ks)) ys → H o' = none → H L' = none → H l = none → l ≠ L' → Q (.ref t) H'
theorem ok_swept (F : Fun K "swept" "swept" s_swept f fd) (B : NoG mg) (RC : RCls K C mf md) (M_Cells : Mk K C fi) (m_Cells : mg "Cells" = some (.ref C))
    (G___init__ : FnOk P w K mg base CX0 1 fi di ["self"] (spInit C)) (b___init__ : Binds K di ["self"] [])
    (G_put : FnOk P w K mg base CX0 1 (mf "put") (md "put") ["self", "cell"] (spPut C)) (G_at : FnOk P w K mg base CX0 1 (mf "at") (md "at") ["self", "value"] (spAt C))
    (G_numbers_led_to : FnOk P w K mg base CX0 2 f_numbers_led_to d_numbers_led_to ["cells", "values"] (spLed C)) (b_numbers_led_to : Binds K d_numbers_led_to ["cells", "values"] []) (k_numbers_led_to : PySem.W.keepIn K (.ref f_numbers_led_to) = true) (m_numbers_led_to : mg "numbers_led_to" = some (.ref f_numbers_led_to))
    (G_moved : FnOk P w K mg base CX0 2 f_moved d_moved ["values", "new_numbers"] spMoved) (b_moved : Binds K d_moved ["values", "new_numbers"] []) (k_moved : PySem.W.keepIn K (.ref f_moved) = true) (m_moved : mg "moved" = some (.ref f_moved))
    (G_moved_cell : FnOk P w K mg base CX0 3 f_moved_cell d_moved_cell ["cell", "new_numbers"] spMovedCell) (b_moved_cell : Binds K d_moved_cell ["cell", "new_numbers"] []) (k_moved_cell : PySem.W.keepIn K (.ref f_moved_cell) = true) (m_moved_cell : mg "moved_cell" = some (.ref f_moved_cell)) :
    FnOk P w K mg base CX0 4 f fd ["cells", "values"] (spSwept C) := by
  refine F.ok sc_swept (fun vs H Q E h => ?_) (fun cdv A outer s H vs Q E hr h => ?_)
  · obtain ⟨o, L, v, us, xs, cs, ws, rfl, _⟩ := h
    rfl
  obtain ⟨o, L, v, us, xs, cs, ws, rfl, hC, hU, hv, hX, hO, hV, hn, hx, q⟩ := h
  have nd := sc_swept.nd
  have hu := hr.units0
  have zz : (4000 : Nat) ≤ sizeLine := by decide
  obtain ⟨dx, ho, hL⟩ := id hC
  refine ⟨_, (pss_cons (ps_set (i := 2) nd rfl (Or.inl rfl) (pe_call G_numbers_led_to (hr.mono (by first | decide | omega)) rfl m_numbers_led_to k_numbers_led_to b_numbers_led_to .nil pass0 (pa_cons (pv 0) (pa_cons (pv 1) pa_nil))))
      (pss_cons (ps_set (i := 3) nd rfl (Or.inl rfl) pe_dnewK)
      (pss_cons (ps_cut (ps_for PassesOwn.never rfl (k_ilist (K := K) (pv 2)) (pg_name (i := 4) nd rfl (Or.inl rfl)) (pss_one (ps_asg (pe_callB k_lenD rfl B.len_ bt_len (pa_cons (pv 3) pa_nil)) (pg_sub (pv 3) (pv 4) (set_dict hr.units))))))
      (pss_cons (ps_set (i := 5) nd rfl (Or.inl rfl) (pe_make0 M_Cells G___init__ (hr.mono (by omega)) rfl m_Cells b___init__ .nil pass0))
      (pss_cons (ps_cut (ps_for PassesOwn.never rfl (k_ilist (K := K) (pv 2)) (pg_name (i := 4) nd rfl (Or.inl rfl)) (pss_one (ps_expr (pe_meth (pv 5) RC.cl RC.m_put G_put (hr.mono (by omega)) RC.b_put .nil pass0 (pa_cons (pe_call G_moved_cell (hr.mono (by first | decide | omega)) rfl m_moved_cell k_moved_cell b_moved_cell .nil pass0 (pa_cons (pe_meth (pv 0) RC.cl RC.m_at G_at (hr.mono (by omega)) RC.b_at .nil pass0 (pa_cons (pe_tup (pa_cons pe_str (pa_cons (pv 4) pa_nil))) pa_nil)) (pa_cons (pv 3) pa_nil))) pa_nil))))))
      (pss_one (ps_ret (pe_tup (pa_cons (pv 5) (pa_cons (pe_call G_moved (hr.mono (by first | decide | omega)) rfl m_moved k_moved b_moved .nil pass0 (pa_cons (pv 1) (pa_cons (pv 3) pa_nil))) pa_nil)))))))))), ?_⟩
  refine ⟨_, rfl, _, rfl, o, L, v, us, xs, cs, ws, rfl, hC, hU, hv, hX, hO, hV, hn, hx, fun kl ks H1 s1 hkl hk1 hK => ?_⟩
  have hkn : ks.length ≤ cs.length := nd_len _ _ hK.nd fun k hk => ((hK.is k).mp hk).lt hO hV
  refine fun d hd => ?_
  have s2 := s1.trans (same_new hd (.dK []))
  have hk2 := (same_new hd (.dK [])) _ _ hk1
  have hd2 : upd H1 d (.dK []) d = some (.dK []) := upd_same
  have hdH : H d = none := s1.free hd
  have nkd : kl ≠ d := fun e => by subst e; rw [hk1] at hd; cases hd
  generalize upd H1 d (.dK []) = H2 at s2 hk2 hd2 ⊢
  have wd' : ∀ (Hx : Hp) (o : HO), Same H Hx → Same H (upd Hx d o) := fun Hx o a x u h => by rw [upd_ne (fun e => by subst e; rw [hdH] at h; cases h)]; exact a _ _ h
  refine ⟨fun σ H' => ∃ a4 kvs, σ = stSw o v kl d a4 none ∧ Same H H' ∧ H' kl = some (.lst (iv ks)) ∧ H' d = some (.dK kvs) ∧ NN ks kvs, ?_, ?_⟩
  · refine ⟨_, rfl, kl, rfl, ⟨_, SqL.of hk2⟩, for_list (xs := iv ks) (fun i σ H' => ∃ a4 kvs, σ = stSw o v kl d a4 none ∧ Same H H' ∧ H' kl = some (.lst (iv ks)) ∧ H' d = some (.dK kvs) ∧ kvs.length = i ∧ kvs.map (·.1) = keysOf (ks.take i) ∧ ∀ j k, j < i → ks[j]? = some k → valV kvs (.inl (k : Int)) = some (.int (j : Nat))) ?_ ?_ ?_ ?_⟩
    · exact ⟨none, [], rfl, s2, hk2, hd2, rfl, rfl, fun j k hj => absurd hj (Nat.not_lt_zero _)⟩
    · rintro i σ H' _ ⟨a4, kvs, rfl, _, hk', _⟩
      exact SqL.of hk'
    · rintro i x σ H' hx' ⟨a4, kvs, rfl, s', hk', hd', rfl, hkeys, hval⟩
      have hi : kvs.length < ks.length := by rw [← iv_len]; exact (List.getElem?_eq_some_iff.mp hx').1
      obtain ⟨k, hk⟩ : ∃ k, ks[kvs.length]? = some k := ⟨_, List.getElem?_eq_getElem hi⟩
      have ex : x = .int (k : Nat) := by rw [iv_at hk] at hx'; exact (Option.some.inj hx').symm
      subst ex
      have hnot : k ∉ ks.take kvs.length := fun hm => by
        obtain ⟨j, hj, e⟩ := List.getElem_of_mem hm
        rw [List.length_take] at hj
        have e2 : ks[j]? = some k := by
          rw [List.getElem_take] at e
          rw [List.getElem?_eq_getElem (by omega), e]
        have := idx_at hK.nd e2
        have := idx_at hK.nd hk
        omega
      have hvn : valV kvs (.inl (k : Int)) = none := by
        have := val_mem hkeys k
        rw [decide_eq_false hnot] at this
        cases h : valV kvs (.inl (k : Int)) with
        | none => rfl
        | some z => rw [h] at this; cases this
      refine ⟨_, rfl, d, kvs, rfl, .inl hd', _, rfl, _, rfl, d, _, rfl, DPut.k (k := .inl (k : Int)) hd' (by omega), ?_⟩
      rw [putK_new _ hvn]
      refine ⟨_, kvs ++ [(.inl (k : Int), .int (kvs.length : Nat))], rfl, wd' _ _ s', upd_at hk' nkd, upd_same, by rw [List.length_append]; rfl, ?_, fun j k' hj hjk => ?_⟩
      · rw [List.map_append, hkeys, List.take_succ, hk]
        unfold keysOf
        rw [List.map_append]; rfl
      · rw [← putK_new _ hvn, valV_put]
        by_cases c : j < kvs.length
        · have hne : (Sum.inl (k' : Int) : Key) ≠ Sum.inl (k : Int) := fun e => by
            have e1 : (k' : Int) = (k : Int) := Sum.inl.inj e
            have e2 : k' = k := by omega
            subst e2
            have := idx_at hK.nd hjk
            have := idx_at hK.nd hk
            omega
          rw [if_neg hne]
          exact hval j k' c hjk
        · have e : j = kvs.length := by omega
          subst e
          rw [hk] at hjk
          cases hjk
          rw [if_pos rfl]
    · rintro σ H' ⟨a4, kvs, rfl, s', hk', hd', hl, hkeys, hval⟩
      refine ⟨a4, kvs, rfl, s', hk', hd', fun k hk => ?_⟩
      obtain ⟨j, hj, e⟩ := List.getElem_of_mem hk
      have e2 : ks[j]? = some k := by rw [List.getElem?_eq_getElem hj, e]
      rw [idx_at hK.nd e2]
      exact hval j k (by rw [iv_len]; exact hj) e2
  rintro σ H3 ⟨a4, kvs, rfl, s3, hk3, hd3, hN⟩
  refine fun o2 d2 ho2 hd2' hn2 => ⟨o2, d2, rfl, upd_same, fun L2 hL2 => ⟨rfl, ?_⟩⟩
  obtain ⟨s4, hC4, hL2H⟩ := made_ok (C := C) ho2 hd2' hn2 hL2
  generalize upd (upd (upd (upd H3 d2 (.own o2)) o2 (.ins C d2 [])) L2 (.lst [])) o2 (.ins C d2 [("in_order", .ref L2)]) = H4 at s4 hC4 ⊢
  have ho2H : H o2 = none := s3.free ho2
  have hL2H0 : H L2 = none := s3.free hL2H
  have ndL : d ≠ L2 := fun e => by subst e; rw [hd3] at hL2H; cases hL2H
  have nkL : kl ≠ L2 := fun e => by subst e; rw [hk3] at hL2H; cases hL2H
  have wl : ∀ Hx Hy : Hp, Same H Hx → Bt L2 Hx Hy → Same H Hy := fun Hx Hy a b x u h => b x u (a _ _ h) fun e => by subst e; rw [hL2H0] at h; cases h
  refine ⟨fun σ H' => ∃ a4 us2, σ = stSw o v kl d a4 (some (.ref o2)) ∧ Same H H' ∧ CAt C H' o2 L2 us2 ∧ All2 (ClAt H') (ks.map fun k => mvc ks (cellAt cs k)) us2 ∧ H' d = some (.dK kvs), ?_, ?_⟩
  · refine ⟨_, rfl, kl, rfl, ⟨_, SqL.of (s4 _ _ hk3)⟩, for_list (xs := iv ks) (fun i σ H' => ∃ a4 us2, σ = stSw o v kl d a4 (some (.ref o2)) ∧ Same H H' ∧ CAt C H' o2 L2 us2 ∧ us2.length = i ∧ All2 (ClAt H') ((ks.take i).map fun k => mvc ks (cellAt cs k)) us2 ∧ H' d = some (.dK kvs) ∧ H' kl = some (.lst (iv ks))) ?_ ?_ ?_ ?_⟩
    · exact ⟨a4, [], rfl, s3.trans s4, hC4, rfl, .nil, s4 _ _ hd3, s4 _ _ hk3⟩
    · rintro i σ H' _ ⟨a4, us2, rfl, _, _, _, _, _, hk'⟩
      exact SqL.of hk'
    · rintro i x σ H' hx' ⟨a4, us2, rfl, s', hC2, rfl, hA2, hd', hk'⟩
      have hi : us2.length < ks.length := by rw [← iv_len]; exact (List.getElem?_eq_some_iff.mp hx').1
      obtain ⟨k, hk⟩ : ∃ k, ks[us2.length]? = some k := ⟨_, List.getElem?_eq_getElem hi⟩
      have ex : x = .int (k : Nat) := by rw [iv_at hk] at hx'; exact (Option.some.inj hx').symm
      subst ex
      have hRk := (hK.is k).mp (List.mem_of_getElem? hk)
      have hkn' := hRk.lt hO hV
      obtain ⟨c, hck⟩ : ∃ c, cs[k]? = some c := ⟨_, List.getElem?_eq_getElem hkn'⟩
      obtain ⟨u, huk, hcu⟩ := hU.get' hck
      obtain ⟨dx2, hi2, hl2⟩ := id hC2
      refine ⟨_, rfl, o2, dx2, _, rfl, hi2, rfl, _, rfl, o, dx, _, rfl, s' _ _ ho, rfl, _, rfl, two2, fun t ht => ?_⟩
      have st := same_new ht (.tup [.str "cell", .int (k : Nat)])
      have s5 := s'.trans st
      refine ⟨o, L, us, t, k, u, rfl, hC.same s5, upd_same, huk, _, rfl, u, d, c, ks, kvs, rfl, hcu.mo (tups_of s5), st _ _ hd', hN, fun j hj => (hK.is j).mpr (.step hRk hck hj), fun u' H5 s6 hcl => ?_⟩
      refine ⟨o2, L2, us2, u', rfl, (hC2.same st).same s6, by omega, fun p H6 hp6 bt6 hC6 _ => ?_⟩
      have hl5 : H5 L2 = some (.lst us2) := s6 _ _ (st _ _ hl2)
      have m6 : Mo H5 H6 := bt6.tups hl5
      refine ⟨_, us2 ++ [u'], rfl, wl H5 H6 (s5.trans s6) bt6, hC6, by rw [List.length_append]; rfl, ?_, bt6 _ _ (s6 _ _ (st _ _ hd')) ndL, bt6 _ _ (s6 _ _ (st _ _ hk')) nkL⟩
      rw [List.take_succ, hk, List.map_append]
      refine ((hA2.imp fun _ _ z => ClAt.mo (fun b zs e => m6 _ _ (s6 _ _ (st _ _ e))) z)).app (.cons ?_ .nil)
      show ClAt H6 (mvc ks (cellAt cs k)) u'
      rw [cellAt_of hck]
      exact hcl.mo m6
    · rintro σ H' ⟨a4, us2, rfl, s', hC2, hl, hA2, hd', hk'⟩
      rw [iv_len, List.take_length] at hA2
      exact ⟨a4, us2, rfl, s', hC2, hA2, hd'⟩
  rintro σ H5 ⟨a4, us2, rfl, s5, hC5, hA5, hd5⟩
  obtain ⟨dx5, hi5, hl5⟩ := id hC5
  refine ⟨_, rfl, _, rfl, _, rfl, v, d, xs, ws, ks, kvs, rfl, .inl (s5 _ _ hv), hX.imp fun _ _ z => VAt.mo (tups_of s5) z, by omega, hd5, hN, fun k hk => (hK.is k).mpr (.root hk), fun l ys H6 s6 hl hl6 hA6 => ⟨two2, fun t ht => ?_⟩⟩
  have s7 := s6.trans (same_new ht (.tup [.ref o2, .ref l]))
  refine q t o2 L2 l us2 ys ks _ (s5.trans s7) hK upd_same (hC5.same s7) (hA5.imp fun _ _ z => ClAt.mo (tups_of s7) z) ((same_new ht _) _ _ hl6) (hA6.imp fun _ _ z => VAt.mo (tups_of (same_new ht _)) z) ho2H hL2H0 (s5.free hl) fun e => ?_
  subst e
  rw [hl5] at hl
  cases hl
end
end SW
namespace SW
open PySem L2 BV CL
def mp (g : Nat → Nat) : Vl → Vl
  | .sc v => .sc v
  | .cell k => .cell (g k)
def mpc (g : Nat → Nat) : Cl → Cl
  | .pair a b => .pair (mp g a) (mp g b)
  | .fn n vs => .fn n (vs.map (mp g))
theorem vin_mpc (g : Nat → Nat) (c : Cl) : vin (mpc g c) = (vin c).map (mp g) := by cases c <;> rfl
theorem mv_mp (ks : List Nat) : mv ks = mp (fun k => ks.idxOf k) := by funext x; cases x <;> rfl
theorem mvc_mpc (ks : List Nat) (c : Cl) : mvc ks c = mpc (fun k => ks.idxOf k) c := by
  cases c with
  | pair a b => show Cl.pair _ _ = Cl.pair _ _; rw [mv_mp]
  | fn n vs => show Cl.fn n _ = Cl.fn n _; rw [mv_mp]
theorem mp_mp (g h : Nat → Nat) (x : Vl) : mp h (mp g x) = mp (fun k => h (g k)) x := by cases x <;> rfl
theorem mpc_mpc (g h : Nat → Nat) (c : Cl) : mpc h (mpc g c) = mpc (fun k => h (g k)) c := by
  cases c with
  | pair a b => show Cl.pair _ _ = Cl.pair _ _; rw [mp_mp, mp_mp]
  | fn n vs => show Cl.fn n _ = Cl.fn n _; rw [List.map_map]; congr 1; exact List.map_congr_left fun x _ => mp_mp g h x
theorem mem_mp {g : Nat → Nat} {vs : List Vl} {j : Nat} (h : Vl.cell j ∈ vs.map (mp g)) : ∃ k, Vl.cell k ∈ vs ∧ g k = j := by
  obtain ⟨x, hx, e⟩ := List.mem_map.mp h
  cases x with
  | sc v => cases e
  | cell k => exact ⟨k, hx, by injection e⟩
structure Alk (cs cs' : List Cl) (ws : List Vl) (g : Nat → Nat) : Prop where
  inj : ∀ j k, Rc cs ws j → Rc cs ws k → g j = g k → j = k
  at_ : ∀ k c, Rc cs ws k → cs[k]? = some c → cs'[g k]? = some (mpc g c)
theorem Alk.lt {cs cs' : List Cl} {ws : List Vl} {g : Nat → Nat} (h : Alk cs cs' ws g) {k : Nat} (r : Rc cs ws k) (hk : k < cs.length) : g k < cs'.length :=
  (List.getElem?_eq_some_iff.mp (h.at_ k _ r (List.getElem?_eq_getElem hk))).1
theorem nd_same {F G : List Nat} (h1 : F.Nodup) (h2 : G.Nodup) (h : ∀ k, k ∈ F ↔ k ∈ G) : F.length = G.length :=
  ((List.perm_ext_iff_of_nodup h1 h2).mpr h).length_eq
end SW
set_option maxHeartbeats 4000000
namespace SW
open PySem L2 BV CL
seal PE PT PW PA PS PSs PTs PI PG PGs PO
abbrev s_law_cell_at : Stmt := top 10
abbrev s_law_drawn : Stmt := top 13
abbrev s_law_made : Stmt := top 14
abbrev s_law_parts : Stmt := top 15
abbrev s_law_sort_alike : Stmt := top 16
abbrev s_law_place : Stmt := top 17
theorem sc_law_cell_at : FnScope ["_law_script", "_law_k"] ["_law_script", "_law_k"] (defScope s_law_cell_at) := ⟨rfl, rfl, rfl, by decide +kernel, rfl, by decide +kernel, by decide +kernel⟩
theorem sc_law_drawn : FnScope ["_law_cell", "_law_values"] ["_law_cell", "_law_values"] (defScope s_law_drawn) := ⟨rfl, rfl, rfl, by decide +kernel, rfl, by decide +kernel, by decide +kernel⟩
theorem sc_law_made : FnScope ["_law_cell", "_law_values", "_law_one"] ["_law_cell", "_law_values"] (defScope s_law_made) := ⟨rfl, rfl, rfl, by decide +kernel, rfl, by decide +kernel, by decide +kernel⟩
theorem sc_law_parts : FnScope ["_law_cell"] ["_law_cell"] (defScope s_law_parts) := ⟨rfl, rfl, rfl, by decide +kernel, rfl, by decide +kernel, by decide +kernel⟩
theorem sc_law_sort_alike : FnScope ["_law_one", "_law_other"] ["_law_one", "_law_other"] (defScope s_law_sort_alike) := ⟨rfl, rfl, rfl, by decide +kernel, rfl, by decide +kernel, by decide +kernel⟩
theorem sc_law_place : FnScope ["_law_value", "_law_many"] ["_law_value", "_law_many"] (defScope s_law_place) := ⟨rfl, rfl, rfl, by decide +kernel, rfl, by decide +kernel, by decide +kernel⟩
section
variable {P : Program} {w : World} {K : PySem.W.Frag} {mg : Str → Option Value} {base : Heap} {f : Addr} {fd : FuncData} {f_law_number f_law_drawn f_law_same : Addr} {d_law_number d_law_drawn d_law_same : FuncData}
def spCellA (K : PySem.W.Frag) : Sp := fun vs H Q _ => ∃ (a : Addr) (ns : List Int) (k : Int), vs = [.ref a, .int k] ∧ SqL K H a (ns.map V.int) ∧ 0 ≤ k ∧ ∀ c : Int, Q (.int c) H
theorem ok_law_cell_at (F : Fun K "_law_cell_at" "_law_cell_at" s_law_cell_at f fd) (B : NoG mg) : FnOk P w K mg base CX0 1 f fd ["_law_script", "_law_k"] (spCellA K) := by
  refine F.ok sc_law_cell_at (fun vs H Q E h => ?_) (fun cdv A outer s H vs Q E hr h => ?_)
  · obtain ⟨a, ns, k, rfl, _⟩ := h
    rfl
  obtain ⟨a, ns, k, rfl, hS, hk, q⟩ := h
  have nd := sc_law_cell_at.nd
  refine ⟨_, (pss_cons (ps_if (pt_cmpR op_lt (pv 1) (pe_callB (k_len (K := K)) rfl B.len_ bt_len (pa_cons (pv 0) pa_nil)) rfl) (pss_one (ps_ret (pe_ix (kIx (K := K) (w := w)) (pv 0) (pv 1) (fun _ _ => rfl)))) pss_nil)
      (pss_one (ps_ret pe_int))), ?_⟩
  refine ⟨_, rfl, _, rfl, _, _, rfl, .inl ⟨_, hS, rfl⟩, _, _, rfl, rfl, _, rfl, ite2 (fun c => ?_) (fun c => ?_)⟩
  · have c' : k < ((ns.map V.int).length : Nat) := of_decide_eq_true c
    rw [List.length_map] at c'
    have hk' : k.toNat < ns.length := by omega
    have e : atI (ns.map V.int) ((k.toNat : Nat) : Int) = some (.int ns[k.toNat]) := atI_nat (by rw [List.getElem?_map, List.getElem?_eq_getElem hk']; rfl)
    have ek : ((k.toNat : Nat) : Int) = k := by omega
    rw [ek] at e
    exact ⟨_, rfl, _, rfl, .inl ⟨_, _, _, _, rfl, rfl, hS, e, q _⟩⟩
  · exact q 0
def spDrawn : Sp := fun vs H Q _ => ∃ (n : Int) (v : Addr) (xs : List V) (ws : List Vl), vs = [.int n, .ref v] ∧ H v = some (.lst xs) ∧ All2 (VAt H) ws xs ∧ ∀ x x' H', Same H H' → VAt H' x' x → (∀ k, x' = .cell k → Vl.cell k ∈ ws) → Q x H'
theorem ok_law_drawn (F : Fun K "_law_drawn" "_law_drawn" s_law_drawn f fd) (B : NoG mg)
    (G_law_number : FnOk P w K mg base CX0 1 f_law_number d_law_number ["_law_cell"] spNum) (b_law_number : Binds K d_law_number ["_law_cell"] []) (k_law_number : PySem.W.keepIn K (.ref f_law_number) = true) (m_law_number : mg "_law_number" = some (.ref f_law_number)) :
    FnOk P w K mg base CX0 2 f fd ["_law_cell", "_law_values"] spDrawn := by
  refine F.ok sc_law_drawn (fun vs H Q E h => ?_) (fun cdv A outer s H vs Q E hr h => ?_)
  · obtain ⟨n, v, xs, ws, rfl, _⟩ := h
    rfl
  obtain ⟨n, v, xs, ws, rfl, hv, hw, q⟩ := h
  have nd := sc_law_drawn.nd
  have hu := hr.units0
  refine ⟨_, (pss_cons (ps_cut (ps_if (PW.pt (pw_and (pt_cmpR op_lt (pe_op op_mod (pv 0) pe_int) pe_int rfl) (pw_and1 (pt_cmpR op_gt (pe_callB (k_len (K := K)) rfl B.len_ bt_len (pa_cons (pv 1) pa_nil)) pe_int rfl)))) (pss_one (ps_ret (pe_ix (kIx (K := K) (w := w)) (pv 1) (pe_op op_mod (pe_op op_fdiv (pv 0) pe_int) (pe_callB (k_len (K := K)) rfl B.len_ bt_len (pa_cons (pv 1) pa_nil))) (fun _ _ => rfl)))) pss_nil))
      (pss_cons (ps_if (pt_cmpR (kEq (K := K) hu) (pe_op op_mod (pv 0) pe_int) pe_int rfl) (pss_one (ps_ret (pe_ix (kIx (K := K) (w := w)) (pe_lst (pa_cons pe_non (pa_cons pe_bl (pa_cons pe_bl pa_nil)))) (pe_op op_mod (pe_op op_fdiv (pv 0) pe_int) pe_int) (fun _ _ => rfl)))) pss_nil)
      (pss_one (ps_ret (pe_call G_law_number (hr.mono (by first | decide | omega)) rfl m_law_number k_law_number b_law_number .nil pass0 (pa_cons (pe_op op_fdiv (pv 0) pe_int) pa_nil)))))), ?_⟩
  refine ⟨fun σ H' => σ = [some (.int n), some (.ref v)] ∧ H = H', ?_, ?_⟩
  · refine ⟨_, rfl, _, _, rfl, rfl, (by decide : (0 : Int) < 5), _, _, rfl, rfl, _, rfl, ite2 (fun e => ?_) (fun e => ifF Bool.false_ne_true ⟨rfl, rfl⟩)⟩
    refine ⟨_, rfl, _, _, rfl, .inl ⟨_, SqL.of hv, rfl⟩, _, _, rfl, rfl, _, rfl, ite2 (fun c => ?_) (fun c => ⟨rfl, rfl⟩)⟩
    have c' : (0 : Int) < (xs.length : Nat) := of_decide_eq_true c
    have g0 := Int.emod_nonneg (n / 5) (show ((xs.length : Nat) : Int) ≠ 0 by omega)
    have g1 := Int.emod_lt_of_pos (n / 5) c'
    obtain ⟨j, hj⟩ := Int.eq_ofNat_of_zero_le g0
    have hjl : j < xs.length := by omega
    have hat : atI xs (n / 5 % (xs.length : Nat)) = some xs[j] := by rw [hj]; exact atI_nat (List.getElem?_eq_getElem hjl)
    obtain ⟨x', hx', hxv⟩ := hw.get (List.getElem?_eq_getElem hjl)
    exact ⟨_, rfl, _, rfl, _, _, rfl, rfl, ⟨by decide, by decide⟩, _, rfl, _, _, rfl, .inl ⟨_, SqL.of hv, rfl⟩, _, _, rfl, rfl, c', .inl ⟨v, xs, _, _, rfl, rfl, SqL.of hv, hat, q _ x' _ (Same.refl _) hxv fun k e => by subst e; exact List.mem_of_getElem? hx'⟩⟩
  rintro σ H' ⟨rfl, rfl⟩
  refine ⟨_, rfl, _, _, rfl, rfl, (by decide : (0 : Int) < 5), .inl ⟨rfl, _, rfl, ite2 (fun e => ?_) (fun e => ?_)⟩⟩
  · obtain ⟨x, hx, hor⟩ := at3 .non (.bl true) (.bl false) (n / 5)
    refine ⟨three3, fun l hl => ⟨_, rfl, _, _, rfl, rfl, ⟨by decide, by decide⟩, _, _, rfl, rfl, (by decide : (0 : Int) < 3), .inl ⟨l, _, _, _, rfl, rfl, SqL.of upd_same, hx, q _ (.sc x) _ (same_new hl _) ⟨rfl, ?_⟩ (fun k e => by cases e)⟩⟩⟩
    rcases hor with rfl | rfl | rfl <;> rfl
  · exact ⟨_, rfl, _, _, rfl, rfl, ⟨by decide, by decide⟩, _, rfl, fun m => q _ (.sc (.int m)) _ (Same.refl _) ⟨rfl, rfl⟩ (fun k e => by cases e)⟩
def spMade : Sp := fun vs H Q _ => ∃ (n : Int) (v : Addr) (xs : List V) (ws : List Vl), vs = [.int n, .ref v] ∧ H v = some (.lst xs) ∧ All2 (VAt H) ws xs ∧ ∀ u c H', Same H H' → ClAt H' c u → (∀ k, Vl.cell k ∈ vin c → Vl.cell k ∈ ws) → Q u H'
theorem ok_law_made (F : Fun K "_law_made" "_law_made" s_law_made f fd) (B : NoG mg)
    (G_law_drawn : FnOk P w K mg base CX0 2 f_law_drawn d_law_drawn ["_law_cell", "_law_values"] spDrawn) (b_law_drawn : Binds K d_law_drawn ["_law_cell", "_law_values"] []) (k_law_drawn : PySem.W.keepIn K (.ref f_law_drawn) = true) (m_law_drawn : mg "_law_drawn" = some (.ref f_law_drawn)) :
    FnOk P w K mg base CX0 3 f fd ["_law_cell", "_law_values"] spMade := by
  refine F.ok sc_law_made (fun vs H Q E h => ?_) (fun cdv A outer s H vs Q E hr h => ?_)
  · obtain ⟨n, v, xs, ws, rfl, _⟩ := h
    rfl
  obtain ⟨n, v, xs, ws, rfl, hv, hw, q⟩ := h
  have nd := sc_law_made.nd
  have hu := hr.units0
  refine ⟨_, (pss_cons (ps_set (i := 2) nd rfl (Or.inr rfl) (pe_op op_mod (pe_op uMul (pv 0) pe_int) pe_int))
      (pss_cons (ps_if (pt_cmpR op_lt (pe_op op_mod (pv 0) pe_int) pe_int rfl) (pss_one (ps_ret (pe_tup (pa_cons pe_str (pa_cons (pe_call G_law_drawn (hr.mono (by first | decide | omega)) rfl m_law_drawn k_law_drawn b_law_drawn .nil pass0 (pa_cons (pv 2) (pa_cons (pv 1) pa_nil))) (pa_cons (pe_call G_law_drawn (hr.mono (by first | decide | omega)) rfl m_law_drawn k_law_drawn b_law_drawn .nil pass0 (pa_cons (pe_op op_fdiv (pv 2) pe_int) (pa_cons (pv 1) pa_nil))) pa_nil)))))) pss_nil)
      (pss_one (ps_ret (pe_tup (pa_cons pe_str (pa_cons (pe_op op_mod (pv 2) pe_int) (pa_cons (pe_callTy (k_tuple (K := K)) rfl B.tuple_ bt_tuple (pa_cons (pe_comp (CompScope.mk (N := ["_law_cell", "_law_values", "_law_one"]) (sc := defScope s_law_made) (caps := [1, 2]) (ns := ["_law_values", "_law_one"]) (by decide +kernel) rfl (by decide +kernel) rfl (by decide +kernel) rfl (by decide +kernel) (by decide +kernel)) rfl rfl rfl (pi_range1 rfl B.range_ (pa_cons (pe_op op_mod (pe_op op_fdiv (pv 2) pe_int) pe_int) pa_nil)) (fun _ _ _ _ _ => pts_nil) (fun _ _ _ _ _ => (pe_call G_law_drawn (hr.mono (by first | decide | omega)) rfl m_law_drawn k_law_drawn b_law_drawn .nil pass0 (pa_cons (pe_op op_fdiv (pe_op op_fdiv (pv 2) pe_int) (pe_op uAdd pe_int (pe_op uMul pe_int (pv 0)))) (pa_cons (pv 1) pa_nil))))) pa_nil)) pa_nil)))))))), ?_⟩
  refine ⟨_, rfl, .inl ⟨_, _, rfl, rfl, .inr ⟨by decide, by decide⟩, _, _, rfl, rfl, (by decide : (0 : Int) < 2147483647), ?_⟩⟩
  have g0 := Int.emod_nonneg (n * 48271) (by decide : (2147483647 : Int) ≠ 0)
  have g1 := Int.emod_lt_of_pos (n * 48271) (by decide : (0 : Int) < 2147483647)
  show tSeq _ _ _ [some (.int n), some (.ref v), some (.int (n * 48271 % 2147483647))] H
  generalize n * 48271 % 2147483647 = one at g0 g1 ⊢
  refine ⟨_, rfl, _, _, rfl, rfl, (by decide : (0 : Int) < 3), _, _, rfl, rfl, _, rfl, ite2 (fun e => ?_) (fun e => ?_)⟩
  · refine ⟨_, rfl, _, rfl, _, v, xs, ws, rfl, hv, hw, fun x x' H1 s1 hx hxi => ?_⟩
    refine ⟨_, rfl, _, _, rfl, rfl, ⟨by decide, by decide⟩, _, rfl, _, v, xs, ws, rfl, s1 _ _ hv, hw.imp fun _ _ z => VAt.mo (tups_of s1) z, fun y y' H2 s2 hy hyi => ⟨three3, fun p hp => ?_⟩⟩
    have s3 := same_new hp (.tup [.str "pair", x, y])
    refine q _ (.pair x' y') _ (s1.trans (s2.trans s3)) ⟨p, x, y, rfl, upd_same, hx.mo (tups_of (s2.trans s3)), hy.mo (tups_of s3)⟩ fun k hk => ?_
    rcases List.mem_cons.mp hk with e | hk
    · exact hxi k e.symm
    · exact hyi k (List.mem_singleton.mp hk).symm
  · have g2 := Int.emod_nonneg (one / 7) (by decide : (5 : Int) ≠ 0)
    have g3 := Int.emod_lt_of_pos (one / 7) (by decide : (0 : Int) < 5)
    refine ⟨_, rfl, _, _, rfl, rfl, (by decide : (0 : Int) < 7), _, rfl, _, _, rfl, rfl, ⟨by decide, by decide⟩, _, _, rfl, rfl, (by decide : (0 : Int) < 5), _, rfl, by omega, by omega, ?_⟩
    refine comp_range (n := (one / 7 % 5).toNat) (fun j zs H' => Same H H' ∧ ∃ vs, vs.length = j ∧ All2 (VAt H') vs zs ∧ ∀ k, Vl.cell k ∈ vs → Vl.cell k ∈ ws) ⟨Same.refl _, [], rfl, .nil, fun _ h => by cases h⟩ ?_ ?_ ?_
    · rintro i zs H' hi ⟨_, vs, hl, hA, _⟩
      have := hA.len
      have : (5 : Nat) ≤ sizeLine := by decide
      omega
    · rintro i zs H' hi ⟨sm, vs, hl, hA, hz⟩
      refine noTest ?_
      refine ⟨_, rfl, _, _, rfl, rfl, ⟨by decide, by decide⟩, _, rfl, .inl ⟨_, _, rfl, rfl, .inl ⟨by decide, by decide⟩, .inl ⟨_, _, rfl, rfl, _, _, rfl, rfl, ⟨by omega, by omega⟩, _, rfl, _, v, xs, ws, rfl, sm _ _ hv, hw.imp fun _ _ z => VAt.mo (tups_of sm) z, fun x x' H1 s1 hx hxi => ?_⟩⟩⟩
      refine ⟨sm.trans s1, vs ++ [x'], by simp [hl], (hA.imp fun _ _ z => VAt.mo (tups_of s1) z).app (.cons hx .nil), fun k hk => ?_⟩
      rcases mem_last hk with e | h
      · exact hxi k e.symm
      · exact hz k h
    · rintro zs H1 ⟨sm, vs, hl, hA, hz⟩ D hD
      have s2 := same_new hD (.lst zs)
      refine ⟨D, zs, rfl, .inl ⟨SqL.of upd_same, fun p1 hp1 => ⟨three3, fun p hp => ?_⟩⟩⟩
      have s3 := same_new hp1 (.tup zs)
      have s4 := same_new hp (.tup [.str "fn", .int (one % 7), .ref p1])
      have s24 := s2.trans (s3.trans s4)
      exact q _ (.fn (one % 7) vs) _ (sm.trans s24) ⟨p, p1, zs, rfl, upd_same, s4 _ _ upd_same, hA.imp fun _ _ z => VAt.mo (tups_of s24) z, by omega⟩ hz
def spParts : Sp := fun vs H Q _ => ∃ (c : Cl) (u : V), vs = [u] ∧ ClAt H c u ∧ ∀ l xs H', Same H H' → H l = none → H' l = some (.lst xs) → All2 (VAt H') (vin c) xs → Q (.ref l) H'
theorem ok_law_parts (F : Fun K "_law_parts" "_law_parts" s_law_parts f fd) (B : NoG mg) : FnOk P w K mg base CX0 1 f fd ["_law_cell"] spParts := by
  refine F.ok sc_law_parts (fun vs H Q E h => ?_) (fun cdv A outer s H vs Q E hr h => ?_)
  · obtain ⟨c, u, rfl, _⟩ := h
    rfl
  obtain ⟨c, u, rfl, hc, q⟩ := h
  have nd := sc_law_parts.nd
  have hu := hr.units0
  refine ⟨_, (pss_cons (ps_if (pt_cmpR (kEq (K := K) hu) (pe_ix (kIx (K := K) (w := w)) (pv 0) pe_int (fun _ _ => rfl)) pe_str rfl) (pss_one (ps_ret (pe_lst (pa_cons (pe_ix (kIx (K := K) (w := w)) (pv 0) pe_int (fun _ _ => rfl)) (pa_cons (pe_ix (kIx (K := K) (w := w)) (pv 0) pe_int (fun _ _ => rfl)) pa_nil))))) pss_nil)
      (pss_one (ps_ret (pe_callTy (k_list (K := K)) rfl B.list_ bt_list (pa_cons (pe_ix (kIx (K := K) (w := w)) (pv 0) pe_int (fun _ _ => rfl)) pa_nil))))), ?_⟩
  cases c with
  | pair a b =>
    obtain ⟨p, x, y, rfl, hp, h1, h2⟩ := hc
    refine ⟨_, rfl, .inr (.inl ⟨p, _, 0, _, rfl, rfl, SqT.of hp, rfl, .inl ⟨rfl, _, rfl, ifT (by decide +kernel) ?_⟩⟩)⟩
    refine ⟨_, rfl, .inr (.inl ⟨p, _, 1, _, rfl, rfl, SqT.of hp, rfl, _, rfl, .inr (.inl ⟨p, _, 2, _, rfl, rfl, SqT.of hp, rfl, two2, fun l hl => ?_⟩)⟩)⟩
    have s1 := same_new hl (.lst [x, y])
    exact q l [x, y] _ s1 hl upd_same (.cons (h1.mo (tups_of s1)) (.cons (h2.mo (tups_of s1)) .nil))
  | fn n vs =>
    obtain ⟨p, r, xs, rfl, hp, hr2, h1, _⟩ := hc
    refine ⟨_, rfl, .inr (.inl ⟨p, _, 0, _, rfl, rfl, SqT.of hp, rfl, .inl ⟨rfl, _, rfl, ifF (by decide +kernel) ?_⟩⟩)⟩
    refine ⟨_, rfl, .inr (.inl ⟨p, _, 2, _, rfl, rfl, SqT.of hp, rfl, r, xs, rfl, .inr (SqT.of hr2), fun l hl => ?_⟩)⟩
    have s1 := same_new hl (.lst xs)
    exact q l xs _ s1 hl upd_same (h1.imp fun _ _ z => VAt.mo (tups_of s1) z)
def spSortA : Sp := fun vs H Q _ => ∃ (c : Cl) (g : Nat → Nat) (u u' : V), vs = [u, u'] ∧ ClAt H c u ∧ ClAt H (mpc g c) u' ∧ ∀ H', Same H H' → Q (.bl true) H'
theorem ok_law_sort_alike (F : Fun K "_law_sort_alike" "_law_sort_alike" s_law_sort_alike f fd) (B : NoG mg)
    (G_law_same : FnOk P w K mg base CX0 1 f_law_same d_law_same ["_law_found", "_law_due"] (spSame 0)) (b_law_same : Binds K d_law_same ["_law_found", "_law_due"] []) (k_law_same : PySem.W.keepIn K (.ref f_law_same) = true) (m_law_same : mg "_law_same" = some (.ref f_law_same)) :
    FnOk P w K mg base CX0 2 f fd ["_law_one", "_law_other"] spSortA := by
  refine F.ok sc_law_sort_alike (fun vs H Q E h => ?_) (fun cdv A outer s H vs Q E hr h => ?_)
  · obtain ⟨c, g, u, u', rfl, _⟩ := h
    rfl
  obtain ⟨c, g, u, u', rfl, hc, hc', q⟩ := h
  have nd := sc_law_sort_alike.nd
  have hu := hr.units0
  refine ⟨_, (pss_cons (ps_cut (ps_if (PW.pt (pw_or (pt_not (k_truth (K := K) (pe_callB (k_isi (K := K)) rfl B.isinstance_ bt_isinstance (pa_cons (pv 1) (pa_cons (pe_bltn (v := .ty "tuple") rfl B.tuple_ bt_tuple rfl) pa_nil))) (fun _ => rfl))) (pw_or (pt_cmpR (kNe (K := K) hu) (pe_callB (k_len (K := K)) rfl B.len_ bt_len (pa_cons (pv 1) pa_nil)) pe_int rfl) (pw_or1 (pt_not (k_truth (K := K) (pe_call G_law_same (hr.mono (by first | decide | omega)) rfl m_law_same k_law_same b_law_same .nil pass0 (pa_cons (pe_ix (kIx (K := K) (w := w)) (pv 1) pe_int (fun _ _ => rfl)) (pa_cons (pe_ix (kIx (K := K) (w := w)) (pv 0) pe_int (fun _ _ => rfl)) pa_nil))) (fun _ => rfl))))))) (pss_one (ps_ret pe_bl)) pss_nil))
      (pss_cons (ps_if (pt_cmpR (kEq (K := K) hu) (pe_ix (kIx (K := K) (w := w)) (pv 0) pe_int (fun _ _ => rfl)) pe_str rfl) (pss_one (ps_ret pe_bl)) pss_nil)
      (pss_one (ps_ret (pe_and (pe_call G_law_same (hr.mono (by first | decide | omega)) rfl m_law_same k_law_same b_law_same .nil pass0 (pa_cons (pe_ix (kIx (K := K) (w := w)) (pv 1) pe_int (fun _ _ => rfl)) (pa_cons (pe_ix (kIx (K := K) (w := w)) (pv 0) pe_int (fun _ _ => rfl)) pa_nil))) (pe_and (pe_callB (k_isi (K := K)) rfl B.isinstance_ bt_isinstance (pa_cons (pe_ix (kIx (K := K) (w := w)) (pv 1) pe_int (fun _ _ => rfl)) (pa_cons (pe_bltn (v := .ty "tuple") rfl B.tuple_ bt_tuple rfl) pa_nil))) (pe_one (pe_cmpR (kEq (K := K) hu) (pe_callB (k_len (K := K)) rfl B.len_ bt_len (pa_cons (pe_ix (kIx (K := K) (w := w)) (pv 1) pe_int (fun _ _ => rfl)) pa_nil)) (pe_callB (k_len (K := K)) rfl B.len_ bt_len (pa_cons (pe_ix (kIx (K := K) (w := w)) (pv 0) pe_int (fun _ _ => rfl)) pa_nil)) rfl)))))))), ?_⟩
  have dp : ∀ (H' : Hp) (z : V), isSc z = true → Dp H' 0 z z := fun H' z h => Dp.sc h 0
  cases c with
  | pair a b =>
    obtain ⟨p, x, y, rfl, hp, h1, h2⟩ := hc
    obtain ⟨p', x', y', rfl, hp', h1', h2'⟩ := hc'
    refine ⟨fun σ H' => σ = [some (.ref p), some (.ref p')] ∧ Same H H', ?_, ?_⟩
    · refine ⟨_, rfl, _, _, _, _, rfl, .tup hp', kit_tt, true, rfl, ifF Bool.false_ne_true ?_⟩
      refine ⟨_, rfl, _, _, rfl, .inr ⟨_, SqT.of hp', rfl⟩, .inl ⟨rfl, _, rfl, ifF (by show ¬ (!decide (V.int (3 : Nat) = V.int 3)) = true; decide) ?_⟩⟩
      exact ⟨_, rfl, .inr (.inl ⟨p', _, 0, _, rfl, rfl, SqT.of hp', rfl, _, rfl, .inr (.inl ⟨p, _, 0, _, rfl, rfl, SqT.of hp, rfl, _, _, rfl, .inl (dp _ _ rfl), fun H1 s1 => ⟨true, rfl, ifF Bool.false_ne_true ⟨rfl, s1⟩⟩⟩)⟩)⟩
    rintro σ H1 ⟨rfl, s1⟩
    exact ⟨_, rfl, .inr (.inl ⟨p, _, 0, _, rfl, rfl, SqT.of (s1 _ _ hp), rfl, .inl ⟨rfl, _, rfl, ifT (by decide +kernel) (q _ s1)⟩⟩)⟩
  | fn n vs =>
    obtain ⟨p, r, xs, rfl, hp, hr, h1, h2⟩ := hc
    obtain ⟨p', r', xs', rfl, hp', hr', h1', h2'⟩ := hc'
    have hl : xs'.length = xs.length := by rw [← h1.len, ← h1'.len, List.length_map]
    refine ⟨fun σ H' => σ = [some (.ref p), some (.ref p')] ∧ Same H H', ?_, ?_⟩
    · refine ⟨_, rfl, _, _, _, _, rfl, .tup hp', kit_tt, true, rfl, ifF Bool.false_ne_true ?_⟩
      refine ⟨_, rfl, _, _, rfl, .inr ⟨_, SqT.of hp', rfl⟩, .inl ⟨rfl, _, rfl, ifF (by show ¬ (!decide (V.int (3 : Nat) = V.int 3)) = true; decide) ?_⟩⟩
      exact ⟨_, rfl, .inr (.inl ⟨p', _, 0, _, rfl, rfl, SqT.of hp', rfl, _, rfl, .inr (.inl ⟨p, _, 0, _, rfl, rfl, SqT.of hp, rfl, _, _, rfl, .inl (dp _ _ rfl), fun H1 s1 => ⟨true, rfl, ifF Bool.false_ne_true ⟨rfl, s1⟩⟩⟩)⟩)⟩
    rintro σ H1 ⟨rfl, s1⟩
    refine ⟨_, rfl, .inr (.inl ⟨p, _, 0, _, rfl, rfl, SqT.of (s1 _ _ hp), rfl, .inl ⟨rfl, _, rfl, ifF (by decide +kernel) ?_⟩⟩)⟩
    refine ⟨_, rfl, .inr (.inl ⟨p', _, 1, _, rfl, rfl, SqT.of (s1 _ _ hp'), rfl, _, rfl, .inr (.inl ⟨p, _, 1, _, rfl, rfl, SqT.of (s1 _ _ hp), rfl, _, _, rfl, .inl (dp _ _ rfl), fun H2 s2 => ⟨true, rfl, ifT rfl ?_⟩⟩)⟩)⟩
    have s3 := s1.trans s2
    refine ⟨_, rfl, .inr (.inl ⟨p', _, 2, _, rfl, rfl, SqT.of (s3 _ _ hp'), rfl, _, _, _, _, rfl, .tup (s3 _ _ hr'), kit_tt, true, rfl, ifT rfl ?_⟩)⟩
    refine ⟨_, rfl, .inr (.inl ⟨p', _, 2, _, rfl, rfl, SqT.of (s3 _ _ hp'), rfl, _, _, rfl, .inr ⟨_, SqT.of (s3 _ _ hr'), rfl⟩, _, rfl, .inr (.inl ⟨p, _, 2, _, rfl, rfl, SqT.of (s3 _ _ hp), rfl, _, _, rfl, .inr ⟨_, SqT.of (s3 _ _ hr), rfl⟩, .inl ⟨rfl, ?_⟩⟩)⟩)⟩
    show Q (.bl (decide (V.int (xs'.length : Nat) = V.int (xs.length : Nat)))) H2
    rw [hl, decide_eq_true rfl]
    exact q _ s3
def spPlace : Sp := fun vs H Q _ => ∃ (p : Addr) (k n : Nat), vs = [.ref p, .int (n : Nat)] ∧ H p = some (.tup [.str "cell", .int (k : Nat)]) ∧ k < n ∧ ∀ H', Same H H' → Q (.bl true) H'
theorem ok_law_place (F : Fun K "_law_place" "_law_place" s_law_place f fd) (B : NoG mg)
    (G_law_same : FnOk P w K mg base CX0 1 f_law_same d_law_same ["_law_found", "_law_due"] (spSame 0)) (b_law_same : Binds K d_law_same ["_law_found", "_law_due"] []) (k_law_same : PySem.W.keepIn K (.ref f_law_same) = true) (m_law_same : mg "_law_same" = some (.ref f_law_same)) :
    FnOk P w K mg base CX0 2 f fd ["_law_value", "_law_many"] spPlace := by
  refine F.ok sc_law_place (fun vs H Q E h => ?_) (fun cdv A outer s H vs Q E hr h => ?_)
  · obtain ⟨p, k, n, rfl, _⟩ := h
    rfl
  obtain ⟨p, k, n, rfl, hp, hk, q⟩ := h
  have nd := sc_law_place.nd
  have hu := hr.units0
  refine ⟨_, (pss_cons (ps_cut (ps_if (PW.pt (pw_or (pt_not (k_truth (K := K) (pe_callB (k_isi (K := K)) rfl B.isinstance_ bt_isinstance (pa_cons (pv 0) (pa_cons (pe_bltn (v := .ty "tuple") rfl B.tuple_ bt_tuple rfl) pa_nil))) (fun _ => rfl))) (pw_or (pt_cmpR (kNe (K := K) hu) (pe_callB (k_len (K := K)) rfl B.len_ bt_len (pa_cons (pv 0) pa_nil)) pe_int rfl) (pw_or1 (pt_not (k_truth (K := K) (pe_call G_law_same (hr.mono (by first | decide | omega)) rfl m_law_same k_law_same b_law_same .nil pass0 (pa_cons (pe_ix (kIx (K := K) (w := w)) (pv 0) pe_int (fun _ _ => rfl)) (pa_cons pe_str pa_nil))) (fun _ => rfl))))))) (pss_one (ps_ret pe_bl)) pss_nil))
      (pss_one (ps_ret (pe_and (pe_callB (k_isi (K := K)) rfl B.isinstance_ bt_isinstance (pa_cons (pe_ix (kIx (K := K) (w := w)) (pv 0) pe_int (fun _ _ => rfl)) (pa_cons (pe_bltn (v := .ty "int") rfl B.int_ bt_int rfl) pa_nil))) (pe_and (pe_not (pe_callB (k_isi (K := K)) rfl B.isinstance_ bt_isinstance (pa_cons (pe_ix (kIx (K := K) (w := w)) (pv 0) pe_int (fun _ _ => rfl)) (pa_cons (pe_bltn (v := .ty "bool") rfl B.bool_ bt_bool rfl) pa_nil)))) (pe_one (pe_chain op_le op_lt pe_int (pe_ix (kIx (K := K) (w := w)) (pv 0) pe_int (fun _ _ => rfl)) (pv 1)))))))), ?_⟩
  refine ⟨fun σ H' => σ = [some (.ref p), some (.int (n : Nat))] ∧ Same H H', ?_, ?_⟩
  · refine ⟨_, rfl, _, _, _, _, rfl, .tup hp, kit_tt, true, rfl, ifF Bool.false_ne_true ?_⟩
    refine ⟨_, rfl, _, _, rfl, .inr ⟨_, SqT.of hp, rfl⟩, .inl ⟨rfl, _, rfl, ifF (by show ¬ (!decide (V.int (2 : Nat) = V.int 2)) = true; decide) ?_⟩⟩
    exact ⟨_, rfl, .inr (.inl ⟨p, _, 0, _, rfl, rfl, SqT.of hp, rfl, _, _, rfl, .inl (Dp.sc rfl 0), fun H1 s1 => ⟨true, rfl, ifF Bool.false_ne_true ⟨rfl, s1⟩⟩⟩)⟩
  rintro σ H1 ⟨rfl, s1⟩
  have hp1 := s1 _ _ hp
  refine ⟨_, rfl, .inr (.inl ⟨p, _, 1, _, rfl, rfl, SqT.of hp1, rfl, _, _, _, _, rfl, .int _, by rfl, true, rfl, ifT rfl ?_⟩)⟩
  refine ⟨_, rfl, .inr (.inl ⟨p, _, 1, _, rfl, rfl, SqT.of hp1, rfl, _, _, _, _, rfl, .int _, by rfl, false, rfl, true, rfl, ifT rfl ?_⟩)⟩
  refine ⟨_, rfl, .inr (.inl ⟨p, _, 1, _, rfl, rfl, SqT.of hp1, rfl, _, _, rfl, rfl, _, rfl, ?_⟩)⟩
  refine ifT (decide_eq_true (Int.natCast_nonneg k)) ⟨_, rfl, _, _, rfl, rfl, ?_⟩
  show Q (.bl (decide ((k : Int) < (n : Int)))) H1
  rw [decide_eq_true (by omega : (k : Int) < (n : Int))]
  exact q _ s1
end
end SW
set_option maxHeartbeats 4000000
namespace SW
open PySem L2 BV CL
seal PE PT PW PA PS PSs PTs PI PG PGs PO
abbrev s_law_alike : Stmt := top 18
theorem sc_law_alike : FnScope ["_law_olds", "_law_news", "_law_old_cells", "_law_new_cells", "_law_places", "_law_back", "_law_waiting", "_law_old", "_law_new", "_law_one", "_law_other", "_law_k"] ["_law_olds", "_law_news", "_law_old_cells", "_law_new_cells"] (defScope s_law_alike) := ⟨rfl, rfl, rfl, by decide +kernel, rfl, by decide +kernel, by decide +kernel⟩
section
variable {P : Program} {w : World} {K : PySem.W.Frag} {mg : Str → Option Value} {base : Heap} {f : Addr} {fd : FuncData} {f_law_place f_law_sort_alike f_law_parts f_law_same : Addr} {d_law_place d_law_sort_alike d_law_parts d_law_same : FuncData}
def WAt (g : Nat → Nat) (H : Hp) (x : Vl) (v : V) : Prop := ∃ (p : Addr) (a b : V), v = .ref p ∧ H p = some (.tup [a, b]) ∧ VAt H x a ∧ VAt H (mp g x) b
theorem WAt.mo {g : Nat → Nat} {H H' : Hp} (m : Mo H H') {x : Vl} {v : V} (h : WAt g H x v) : WAt g H' x v :=
  let ⟨p, a, b, e, h1, h2, h3⟩ := h; ⟨p, a, b, e, m _ _ h1, h2.mo m, h3.mo m⟩
def stA (ao an ac bc d1 d2 wl : Addr) (a7 a8 a9 a10 a11 : Option V) : St := [some (.ref ao), some (.ref an), some (.ref ac), some (.ref bc), some (.ref d1), some (.ref d2), some (.ref wl), a7, a8, a9, a10, a11]
def Dcs (H : Hp) (d1 d2 : Addr) (g : Nat → Nat) (F : List Nat) : Prop := ∃ kvs kvb : List (Key × V), H d1 = some (.dK kvs) ∧ H d2 = some (.dK kvb) ∧ kvs.map (·.1) = keysOf F ∧ kvb.map (·.1) = keysOf (F.map g) ∧
  (∀ k ∈ F, valV kvs (.inl (k : Int)) = some (.int (g k : Nat))) ∧ ∀ k ∈ F, valV kvb (.inl (g k : Int)) = some (.int (k : Nat))
def IA (g : Nat → Nat) (H : Hp) (ao an ac bc d1 d2 wl : Addr) (cs : List Cl) (ws : List Vl) (m : Nat) (σ : St) (H' : Hp) : Prop := ∃ a7 a8 a9 a10 a11 F W zs, σ = stA ao an ac bc d1 d2 wl a7 a8 a9 a10 a11 ∧ Same H H' ∧ Dcs H' d1 d2 g F ∧ H' wl = some (.lst zs) ∧ All2 (WAt g H') W zs ∧ Wlk cs ws F W ∧ m = (cs.length - F.length) * 11 + W.length ∧ W.length ≤ 100 + 10 * F.length
theorem Dcs.at {H H' : Hp} {d1 d2 : Addr} {g : Nat → Nat} {F : List Nat} (h : Dcs H d1 d2 g F) (h1 : ∀ o, H d1 = some o → H' d1 = some o) (h2 : ∀ o, H d2 = some o → H' d2 = some o) : Dcs H' d1 d2 g F :=
  let ⟨kvs, kvb, a, b, c⟩ := h; ⟨kvs, kvb, h1 _ a, h2 _ b, c⟩
theorem val_none {kvs : List (Key × V)} {F : List Nat} (h : kvs.map (·.1) = keysOf F) {k : Nat} (hk : k ∉ F) : valV kvs (.inl (k : Int)) = none := by
  have := val_mem h k
  rw [decide_eq_false hk] at this
  cases h : valV kvs (.inl (k : Int)) with
  | none => rfl
  | some z => rw [h] at this; cases this
theorem keys_len {kvs : List (Key × V)} {F : List Nat} (h : kvs.map (·.1) = keysOf F) : kvs.length = F.length := by
  have := congrArg List.length h
  unfold keysOf at this
  simpa using this
theorem keys_snoc {kvs : List (Key × V)} {F : List Nat} (h : kvs.map (·.1) = keysOf F) (k : Nat) (v : V) : (kvs ++ [((Sum.inl (k : Int) : Key), v)]).map (·.1) = keysOf (F ++ [k]) := by
  rw [List.map_append, h]
  unfold keysOf
  rw [List.map_append]; rfl
theorem key_ne {j k : Nat} (h : j ≠ k) : (Sum.inl (j : Int) : Key) ≠ Sum.inl (k : Int) := fun e => h (by have : (j : Int) = (k : Int) := Sum.inl.inj e; omega)
theorem vals_snoc {kvs : List (Key × V)} {F : List Nat} {a b : Nat → Nat} (h : ∀ j ∈ F, valV kvs (.inl (a j : Int)) = some (.int (b j : Nat))) {k : Nat} (hn : valV kvs (.inl (a k : Int)) = none) (hi : ∀ j ∈ F, a j ≠ a k) :
    ∀ j ∈ F ++ [k], valV (kvs ++ [(Sum.inl (a k : Int), .int (b k : Nat))]) (.inl (a j : Int)) = some (.int (b j : Nat)) := fun j hj => by
  rw [← putK_new _ hn, valV_put]
  rcases mem_last hj with rfl | hj
  · rw [if_pos rfl]
  · rw [if_neg (key_ne (hi j hj))]
    exact h j hj
def spAlike : Sp := fun vs H Q _ => ∃ (ao an ac bc : Addr) (xs ys us us' : List V) (cs cs' : List Cl) (ws : List Vl) (g : Nat → Nat), vs = [.ref ao, .ref an, .ref ac, .ref bc] ∧ H ao = some (.lst xs) ∧ H an = some (.lst ys) ∧ H ac = some (.lst us) ∧ H bc = some (.lst us') ∧
  All2 (VAt H) ws xs ∧ All2 (VAt H) (ws.map (mp g)) ys ∧ All2 (ClAt H) cs us ∧ All2 (ClAt H) cs' us' ∧ Okc cs ∧ Okv cs.length ws ∧ cs.length ≤ 63 ∧ xs.length ≤ 100 ∧ Alk cs cs' ws g ∧
  ∀ (d : Addr) (kvs : List (Key × V)) (F : List Nat) (H' : Hp), Same H H' → H d = none → H' d = some (.dK kvs) → kvs.length = F.length → F.Nodup → (∀ k, k ∈ F ↔ Rc cs ws k) → Q (.ref d) H'
theorem ok_law_alike (F : Fun K "_law_alike" "_law_alike" s_law_alike f fd) (B : NoG mg)
    (G_law_same : FnOk P w K mg base CX0 1 f_law_same d_law_same ["_law_found", "_law_due"] (spSame 0)) (b_law_same : Binds K d_law_same ["_law_found", "_law_due"] []) (k_law_same : PySem.W.keepIn K (.ref f_law_same) = true) (m_law_same : mg "_law_same" = some (.ref f_law_same))
    (G_law_place : FnOk P w K mg base CX0 2 f_law_place d_law_place ["_law_value", "_law_many"] spPlace) (b_law_place : Binds K d_law_place ["_law_value", "_law_many"] []) (k_law_place : PySem.W.keepIn K (.ref f_law_place) = true) (m_law_place : mg "_law_place" = some (.ref f_law_place))
    (G_law_sort_alike : FnOk P w K mg base CX0 2 f_law_sort_alike d_law_sort_alike ["_law_one", "_law_other"] spSortA) (b_law_sort_alike : Binds K d_law_sort_alike ["_law_one", "_law_other"] []) (k_law_sort_alike : PySem.W.keepIn K (.ref f_law_sort_alike) = true) (m_law_sort_alike : mg "_law_sort_alike" = some (.ref f_law_sort_alike))
    (G_law_parts : FnOk P w K mg base CX0 1 f_law_parts d_law_parts ["_law_cell"] spParts) (b_law_parts : Binds K d_law_parts ["_law_cell"] []) (k_law_parts : PySem.W.keepIn K (.ref f_law_parts) = true) (m_law_parts : mg "_law_parts" = some (.ref f_law_parts)) :
    FnOk P w K mg base CX0 3 f fd ["_law_olds", "_law_news", "_law_old_cells", "_law_new_cells"] spAlike := by
  refine F.ok sc_law_alike (fun vs H Q E h => ?_) (fun cdv A outer s H vs Q E hr h => ?_)
  · obtain ⟨ao, an, ac, bc, xs, ys, us, us', cs, cs', ws, g, rfl, _⟩ := h
    rfl
  obtain ⟨ao, an, ac, bc, xs, ys, us, us', cs, cs', ws, g, rfl, hao, han, hac, hbc, hX, hY, hU, hU', hO, hV, hn, hx, hG, q⟩ := h
  have nd := sc_law_alike.nd
  have hu := hr.units0
  have zz : (4000 : Nat) ≤ sizeLine := by decide
  refine ⟨_, (pss_cons (ps_set (i := 4) nd rfl (Or.inl rfl) pe_dnewK)
      (pss_cons (ps_set (i := 5) nd rfl (Or.inl rfl) pe_dnewK)
      (pss_cons (ps_setComp (i := 6) nd rfl rfl (CompScope.mk (N := ["_law_olds", "_law_news", "_law_old_cells", "_law_new_cells", "_law_places", "_law_back", "_law_waiting", "_law_old", "_law_new", "_law_one", "_law_other", "_law_k"]) (sc := defScope s_law_alike) (caps := [0, 1]) (ns := ["_law_olds", "_law_news"]) (by decide +kernel) rfl (by decide +kernel) rfl (by decide +kernel) rfl (by decide +kernel) (by decide +kernel)) rfl rfl rfl (pi_range1 rfl B.range_ (pa_cons (pe_callB (k_len (K := K)) rfl B.len_ bt_len (pa_cons (pv 0) pa_nil)) pa_nil)) (fun _ _ _ _ _ => pts_nil) (fun _ _ _ _ _ => (pe_tup (pa_cons (pe_ix (kIx (K := K) (w := w)) (pv 1) (pv 0) (fun _ _ => rfl)) (pa_cons (pe_ix (kIx (K := K) (w := w)) (pv 2) (pv 0) (fun _ _ => rfl)) pa_nil)))))
      (pss_cons (ps_cut (ps_while PassesOwn.never (pt_cmpR op_gt (pe_callB (k_len (K := K)) rfl B.len_ bt_len (pa_cons (pv 6) pa_nil)) pe_int rfl) (pss_cons (ps_asg (k_bm0 (K := K) PySem.F.plainAttrs_list PySem.F.slot_list_pop PySem.F.type_list_pop mt_pop (pv 6)) (pg_tup rfl (pgs_cons (pg_name (i := 7) nd rfl (Or.inl rfl)) (pgs_cons (pg_name (i := 8) nd rfl (Or.inl rfl)) pgs_nil))))
      (pss_one (ps_cut (ps_if (pt_not (k_truth (K := K) (pe_callB (k_isi (K := K)) rfl B.isinstance_ bt_isinstance (pa_cons (pv 7) (pa_cons (pe_bltn (v := .ty "tuple") rfl B.tuple_ bt_tuple rfl) pa_nil))) (fun _ => rfl))) (pss_one (ps_if (pt_not (k_truth (K := K) (pe_call G_law_same (hr.mono (by first | decide | omega)) rfl m_law_same k_law_same b_law_same .nil pass0 (pa_cons (pv 8) (pa_cons (pv 7) pa_nil))) (fun _ => rfl))) (pss_one (ps_ret pe_non)) pss_nil)) (pss_one (ps_if (pt_not (k_truth (K := K) (pe_call G_law_place (hr.mono (by first | decide | omega)) rfl m_law_place k_law_place b_law_place .nil pass0 (pa_cons (pv 8) (pa_cons (pe_callB (k_len (K := K)) rfl B.len_ bt_len (pa_cons (pv 3) pa_nil)) pa_nil))) (fun _ => rfl))) (pss_one (ps_ret pe_non)) (pss_one (ps_cut (ps_if (PW.pt (pw_and (pt_cmpR (kNotInD hr.units) (pe_ix (kIx (K := K) (w := w)) (pv 7) pe_int (fun _ _ => rfl)) (pv 4) rfl) (pw_and1 (pt_cmpR (kNotInD hr.units) (pe_ix (kIx (K := K) (w := w)) (pv 8) pe_int (fun _ _ => rfl)) (pv 5) rfl)))) (pss_cons (ps_asg (pe_ix (kIx (K := K) (w := w)) (pv 8) pe_int (fun _ _ => rfl)) (pg_sub (pv 4) (pe_ix (kIx (K := K) (w := w)) (pv 7) pe_int (fun _ _ => rfl)) (set_dict hr.units)))
      (pss_cons (ps_asg (pe_ix (kIx (K := K) (w := w)) (pv 7) pe_int (fun _ _ => rfl)) (pg_sub (pv 5) (pe_ix (kIx (K := K) (w := w)) (pv 8) pe_int (fun _ _ => rfl)) (set_dict hr.units)))
      (pss_cons (ps_set (i := 9) nd rfl (Or.inl rfl) (pe_ix (kIx (K := K) (w := w)) (pv 2) (pe_ix (kIx (K := K) (w := w)) (pv 7) pe_int (fun _ _ => rfl)) (fun _ _ => rfl)))
      (pss_cons (ps_set (i := 10) nd rfl (Or.inl rfl) (pe_ix (kIx (K := K) (w := w)) (pv 3) (pe_ix (kIx (K := K) (w := w)) (pv 8) pe_int (fun _ _ => rfl)) (fun _ _ => rfl)))
      (pss_cons (ps_if (pt_not (k_truth (K := K) (pe_call G_law_sort_alike (hr.mono (by first | decide | omega)) rfl m_law_sort_alike k_law_sort_alike b_law_sort_alike .nil pass0 (pa_cons (pv 9) (pa_cons (pv 10) pa_nil))) (fun _ => rfl))) (pss_one (ps_ret pe_non)) pss_nil)
      (pss_one (ps_cut (ps_for PassesOwn.never rfl (pi_range1 rfl B.range_ (pa_cons (pe_callB (k_len (K := K)) rfl B.len_ bt_len (pa_cons (pe_call G_law_parts (hr.mono (by first | decide | omega)) rfl m_law_parts k_law_parts b_law_parts .nil pass0 (pa_cons (pv 9) pa_nil)) pa_nil)) pa_nil)) (pg_name (i := 11) nd rfl (Or.inl rfl)) (pss_one (ps_expr (k_bm (K := K) PySem.F.plainAttrs_list PySem.F.slot_list_append PySem.F.type_list_append mt_append (pv 6) (pa_cons (pe_tup (pa_cons (pe_ix (kIx (K := K) (w := w)) (pe_call G_law_parts (hr.mono (by first | decide | omega)) rfl m_law_parts k_law_parts b_law_parts .nil pass0 (pa_cons (pv 9) pa_nil)) (pv 11) (fun _ _ => rfl)) (pa_cons (pe_ix (kIx (K := K) (w := w)) (pe_call G_law_parts (hr.mono (by first | decide | omega)) rfl m_law_parts k_law_parts b_law_parts .nil pass0 (pa_cons (pv 10) pa_nil)) (pv 11) (fun _ _ => rfl)) pa_nil))) pa_nil)))))))))))) (pss_one (ps_cut (ps_if (PW.pt (pw_or (pt_cmpR (kNe (K := K) hu) (pe_dget1 (Nat.lt_of_le_of_lt (Nat.add_le_add_left (by decide : 1 ≤ 64) _) hr.units) (pv 4) (pe_ix (kIx (K := K) (w := w)) (pv 7) pe_int (fun _ _ => rfl)) ⟨rfl, rfl, rfl, rfl⟩) (pe_ix (kIx (K := K) (w := w)) (pv 8) pe_int (fun _ _ => rfl)) rfl) (pw_or1 (pt_cmpR (kNe (K := K) hu) (pe_dget1 (Nat.lt_of_le_of_lt (Nat.add_le_add_left (by decide : 1 ≤ 64) _) hr.units) (pv 5) (pe_ix (kIx (K := K) (w := w)) (pv 8) pe_int (fun _ _ => rfl)) ⟨rfl, rfl, rfl, rfl⟩) (pe_ix (kIx (K := K) (w := w)) (pv 7) pe_int (fun _ _ => rfl)) rfl)))) (pss_one (ps_ret pe_non)) pss_nil))))))))))))))
      (pss_one (ps_ret (pv 5))))))), ?_⟩
  refine fun d1 hd1 => fun d2 hd2 => ?_
  have sA := (same_new hd1 (.dK [])).trans (same_new hd2 (.dK []))
  have h1 : upd (upd H d1 (.dK [])) d2 (.dK []) d1 = some (.dK []) := (same_new hd2 (.dK [])) _ _ upd_same
  have h2 : upd (upd H d1 (.dK [])) d2 (.dK []) d2 = some (.dK []) := upd_same
  have hd2H : H d2 = none := (same_new hd1 (.dK [])).free hd2
  have n12 : d1 ≠ d2 := fun e => by subst e; rw [upd_same] at hd2; cases hd2
  generalize upd (upd H d1 (.dK [])) d2 (.dK []) = H1 at sA h1 h2 ⊢
  have hlX := hX.len
  have hlY := hY.len
  rw [List.length_map] at hlY
  refine ⟨_, rfl, _, _, rfl, .inl ⟨_, SqL.of (sA _ _ hao), rfl⟩, _, rfl, by omega, by omega, comp_range (n := xs.length) (fun i zs H' => Same H1 H' ∧ zs.length = i ∧ All2 (WAt g H') (ws.take i) zs) ⟨Same.refl _, rfl, .nil⟩ ?_ ?_ ?_⟩
  · rintro i zs H' hi ⟨_, hl, _⟩
    omega
  · rintro i zs H' hi ⟨s1, hl, hA⟩
    have e0 : (0 : Int) + (i : Nat) = ((i : Nat) : Int) := by omega
    have hiw : i < ws.length := by omega
    obtain ⟨x, hxi, hxv⟩ := hX.get' (List.getElem?_eq_getElem hiw)
    obtain ⟨y, hyi, hyv⟩ := hY.get' (show (ws.map (mp g))[i]? = some (mp g ws[i]) by rw [List.getElem?_map, List.getElem?_eq_getElem hiw]; rfl)
    have a1 : atI xs (0 + (i : Nat)) = some x := by rw [e0]; exact atI_nat hxi
    have a2 : atI ys (0 + (i : Nat)) = some y := by rw [e0]; exact atI_nat hyi
    refine noTest ⟨_, rfl, _, rfl, .inl ⟨ao, xs, _, _, rfl, rfl, SqL.of (s1 _ _ (sA _ _ hao)), a1, _, rfl, _, rfl, .inl ⟨an, ys, _, _, rfl, rfl, SqL.of (s1 _ _ (sA _ _ han)), a2, two2, fun t ht => ?_⟩⟩⟩
    have st := same_new ht (.tup [x, y])
    refine ⟨s1.trans st, by rw [List.length_append, hl]; rfl, ?_⟩
    rw [List.take_succ, List.getElem?_eq_getElem hiw]
    have mx := tups_of (sA.trans (s1.trans st))
    exact (hA.imp fun _ _ z => WAt.mo (tups_of st) z).app (.cons ⟨t, x, y, rfl, upd_same, hxv.mo mx, hyv.mo mx⟩ .nil)
  rintro zs H2 ⟨s2, hl2, hA2⟩ wl hwl
  rw [← hlX, List.take_length] at hA2
  have sw := same_new hwl (.lst zs)
  have hwH : H wl = none := sA.free (s2.free hwl)
  have n1w : d1 ≠ wl := fun e => by subst e; rw [s2 _ _ h1] at hwl; cases hwl
  have n2w : d2 ≠ wl := fun e => by subst e; rw [s2 _ _ h2] at hwl; cases hwl
  have free : ∀ (a : Addr) (Hx : Hp) (o : HO), H a = none → Same H Hx → Same H (upd Hx a o) := fun a Hx o ha hx b u h => by rw [upd_ne (fun e => by subst e; rw [ha] at h; cases h)]; exact hx _ _ h
  refine ⟨fun σ H' => ∃ a7 a8 a9 a10 a11 F, σ = stA ao an ac bc d1 d2 wl a7 a8 a9 a10 a11 ∧ Same H H' ∧ Dcs H' d1 d2 g F ∧ Wlk cs ws F [], ⟨IA g H ao an ac bc d1 d2 wl cs ws, ⟨_, none, none, none, none, none, [], ws, zs, rfl, sA.trans (s2.trans sw), ⟨[], [], sw _ _ (s2 _ _ h1), sw _ _ (s2 _ _ h2), rfl, rfl, fun k h => (by cases h), fun k h => (by cases h)⟩, upd_same, hA2.imp fun _ _ z => WAt.mo (tups_of sw) z, Wlk.start cs ws, rfl, by show ws.length ≤ 100 + 0; omega⟩, ?_⟩, ?_⟩
  · rintro m σ H' ⟨a7, a8, a9, a10, a11, F, W, zs, rfl, s', hD', hw', hA, hWk, rfl, hWl⟩
    have hFn := nd_len cs.length F hWk.nd fun k hk => (hWk.f k hk).lt hO hV
    rcases List.eq_nil_or_concat W with hW | ⟨W', x, hW⟩
    · subst hW
      cases hA
      exact ⟨_, rfl, _, _, rfl, .inl ⟨_, SqL.of hw', rfl⟩, _, _, rfl, rfl, _, rfl, ifF (by decide) ⟨a7, a8, a9, a10, a11, F, rfl, s', hD', hWk⟩⟩
    · rw [List.concat_eq_append] at hW
      subst hW
      obtain ⟨zs', z, rfl, hA', hxz⟩ := all2_snoc hA
      have hlW : (W' ++ [x]).length = W'.length + 1 := by rw [List.length_append]; rfl
      rw [hlW] at hWl ⊢
      refine ⟨_, rfl, _, _, rfl, .inl ⟨_, SqL.of hw', rfl⟩, _, _, rfl, rfl, _, rfl, ifT (decide_eq_true (by rw [List.length_append]; show (0 : Int) < ((zs'.length + 1 : Nat) : Int); omega)) ?_⟩
      refine ⟨fun σ H2 => ∃ m', m' < (cs.length - F.length) * 11 + (W'.length + 1) ∧ IA g H ao an ac bc d1 d2 wl cs ws m' σ H2, fun _ _ h => h, ?_⟩
      refine ⟨_, rfl, .inl ⟨rfl, _, SqL.of hw'⟩, wl, _, z, rfl, rfl, hw', by simp, ?_⟩
      rw [List.dropLast_concat]
      have s3 := free wl H' (.lst zs') hwH s'
      have hD3 : Dcs (upd H' wl (.lst zs')) d1 d2 g F := hD'.at (fun o h => upd_at h n1w) fun o h => upd_at h n2w
      have hw3 : upd H' wl (.lst zs') wl = some (.lst zs') := upd_same
      have m3 : Mo H' (upd H' wl (.lst zs')) := fun b zs e => upd_at e (ne_of e hw' (by intro z; cases z))
      have hA3 := hA'.imp fun _ _ z => WAt.mo m3 z
      have hx3 := WAt.mo m3 hxz
      generalize upd H' wl (.lst zs') = H3 at s3 hD3 hw3 hA3 hx3 ⊢
      obtain ⟨p, xo, xn, rfl, hp, hxo, hxn⟩ := hx3
      refine ⟨p, _, rfl, SqT.of hp, rfl, _, _, rfl, _, _, rfl, rfl, ?_⟩
      refine ⟨_, ?_, fun _ _ h => h⟩
      have same : ∀ H4, Same H3 H4 → (∀ k, x = .cell k → k ∈ F) → ∃ m', m' < (cs.length - F.length) * 11 + (W'.length + 1) ∧ IA g H ao an ac bc d1 d2 wl cs ws m' (stA ao an ac bc d1 d2 wl (some xo) (some xn) a9 a10 a11) H4 := fun H4 s4 hin =>
        ⟨_, Nat.lt_succ_self _, _, _, _, _, _, F, W', zs', rfl, s3.trans s4, hD3.at (fun o h => s4 _ _ h) (fun o h => s4 _ _ h), s4 _ _ hw3, hA3.imp fun _ _ z => WAt.mo (tups_of s4) z, hWk.drop hin, rfl, by omega⟩
      cases x with
      | sc v =>
        obtain ⟨rfl, hs⟩ := hxo
        obtain ⟨rfl, _⟩ := hxn
        have fin : tIfS (tNot (tTru K (tCall (spSame 0) [] E0 (tCons (tVar 8) (tCons (tVar 7) tNil))))) (tRet (tC V.non)) tNext { nx := fun σ H2 => ∃ m', m' < (cs.length - F.length) * 11 + (W'.length + 1) ∧ IA g H ao an ac bc d1 d2 wl cs ws m' σ H2, rt := Q } (stA ao an ac bc d1 d2 wl (some xn) (some xn) a9 a10 a11) H3 :=
          ⟨_, rfl, _, rfl, _, _, rfl, .inl ⟨scV_sc hs, rfl⟩, fun H4 s4 => ⟨true, rfl, ifF Bool.false_ne_true (same H4 s4 fun k e => by cases e)⟩⟩
        obtain ⟨t, ht, sct⟩ := sc_ty (K := K) (H := H3) (scV_sc hs)
        refine ⟨_, rfl, _, _, t, _, rfl, ht, sct.tu, false, rfl, ifT rfl ?_⟩
        exact fin
      | cell k =>
        obtain ⟨po, rfl, hpo⟩ := hxo
        obtain ⟨pn, rfl, hpn⟩ := hxn
        have hRk : Rc cs ws k := hWk.w k (List.mem_append_right _ (List.mem_singleton.mpr rfl))
        have hkn : k < cs.length := hRk.lt hO hV
        have hgn : g k < cs'.length := hG.lt hRk hkn
        have hlU := hU'.len
        refine ⟨_, rfl, _, _, _, _, rfl, .tup hpo, kit_tt, true, rfl, ifF Bool.false_ne_true ?_⟩
        refine ⟨_, rfl, _, rfl, _, _, rfl, .inl ⟨_, SqL.of (s3 _ _ hbc), rfl⟩, pn, g k, us'.length, rfl, hpn, by omega, fun H4 s4 => ⟨true, rfl, ifF Bool.false_ne_true ?_⟩⟩
        have hpo4 := s4 _ _ hpo
        have hpn4 := s4 _ _ hpn
        have hD4 : Dcs H4 d1 d2 g F := hD3.at (fun o h => s4 _ _ h) (fun o h => s4 _ _ h)
        obtain ⟨kvs, kvb, hkd1, hkd2, hk1, hk2, hv1, hv2⟩ := hD4
        refine ⟨_, ?_, fun _ _ h => h⟩
        by_cases hk : k ∈ F
        · have e1 := hv1 k hk
          have e2 := hv2 k hk
          refine ⟨_, rfl, .inr (.inl ⟨po, _, 1, _, rfl, rfl, SqT.of hpo4, rfl, _, rfl, d1, _, rfl, DGet.k (k := .inl (k : Int)) hkd1, _, rfl, ?_⟩)⟩
          rw [e1]
          refine ifF Bool.false_ne_true (ifF Bool.false_ne_true ?_)
          refine ⟨_, ?_, fun _ _ h => h⟩
          refine ⟨_, rfl, d1, rfl, .inl ⟨_, .inl hkd1⟩, _, rfl, .inr (.inl ⟨po, _, 1, _, rfl, rfl, SqT.of hpo4, rfl, _, DGet.k (k := .inl (k : Int)) hkd1, _, rfl, .inr (.inl ⟨pn, _, 1, _, rfl, rfl, SqT.of hpn4, rfl, ?_⟩)⟩)⟩
          rw [e1]
          refine .inl ⟨rfl, _, rfl, ifF (by simp) ?_⟩
          refine ⟨_, rfl, d2, rfl, .inl ⟨_, .inl hkd2⟩, _, rfl, .inr (.inl ⟨pn, _, 1, _, rfl, rfl, SqT.of hpn4, rfl, _, DGet.k (k := .inl (g k : Int)) hkd2, _, rfl, .inr (.inl ⟨po, _, 1, _, rfl, rfl, SqT.of hpo4, rfl, ?_⟩)⟩)⟩
          rw [e2]
          refine .inl ⟨rfl, _, rfl, ifF (by simp) ?_⟩
          exact same H4 s4 fun j e => by cases e; exact hk
        · have hgk : g k ∉ F.map g := fun h => by
            obtain ⟨j, hj, e⟩ := List.mem_map.mp h
            have := hG.inj j k (hWk.f j hj) hRk e
            subst this; exact hk hj
          have n1 := val_none hk1 hk
          have n2 := val_none hk2 hgk
          have hFlt : F.length < cs.length := by
            have := nd_len cs.length (F ++ [k]) (ndSnoc hWk.nd hk) fun j hj => by
              rcases mem_last hj with rfl | hj
              · exact hkn
              · exact (hWk.f j hj).lt hO hV
            rw [List.length_append] at this
            exact this
          have l1 := keys_len hk1
          have l2 := keys_len hk2
          rw [List.length_map] at l2
          refine ⟨_, rfl, .inr (.inl ⟨po, _, 1, _, rfl, rfl, SqT.of hpo4, rfl, _, rfl, d1, _, rfl, DGet.k (k := .inl (k : Int)) hkd1, _, rfl, ?_⟩)⟩
          rw [n1]
          refine ifT rfl ⟨_, rfl, .inr (.inl ⟨pn, _, 1, _, rfl, rfl, SqT.of hpn4, rfl, _, rfl, d2, _, rfl, DGet.k (k := .inl (g k : Int)) hkd2, _, rfl, ?_⟩)⟩
          rw [n2]
          refine ifT rfl ⟨_, rfl, .inr (.inl ⟨pn, _, 1, _, rfl, rfl, SqT.of hpn4, rfl, _, rfl, _, rfl, .inr (.inl ⟨po, _, 1, _, rfl, rfl, SqT.of hpo4, rfl, d1, _, rfl, DPut.k (k := .inl (k : Int)) hkd1 (by omega), ?_⟩)⟩)⟩
          rw [putK_new _ n1]
          have s5 := free d1 H4 (.dK (kvs ++ [(.inl (k : Int), .int (g k : Nat))])) hd1 (s3.trans s4)
          have hk5 : upd H4 d1 (.dK (kvs ++ [(.inl (k : Int), .int (g k : Nat))])) d1 = some (.dK (kvs ++ [(.inl (k : Int), .int (g k : Nat))])) := upd_same
          have hb5 := upd_at (o' := .dK (kvs ++ [(.inl (k : Int), .int (g k : Nat))])) hkd2 (Ne.symm n12)
          have hw5 := upd_at (o' := .dK (kvs ++ [(.inl (k : Int), .int (g k : Nat))])) (s4 _ _ hw3) (Ne.symm n1w)
          have m5 : Mo H3 (upd H4 d1 (.dK (kvs ++ [(.inl (k : Int), .int (g k : Nat))]))) := fun b zs e => upd_at (s4 _ _ e) (ne_of (s4 _ _ e) hkd1 (by intro z; cases z))
          show tSeq _ _ _ _ (upd H4 d1 (.dK (kvs ++ [(.inl (k : Int), .int (g k : Nat))])))
          generalize upd H4 d1 (.dK (kvs ++ [(.inl (k : Int), .int (g k : Nat))])) = H5 at s5 hk5 hb5 hw5 m5 ⊢
          refine ⟨_, rfl, .inr (.inl ⟨po, _, 1, _, rfl, rfl, SqT.of (m5 _ _ hpo), rfl, _, rfl, _, rfl, .inr (.inl ⟨pn, _, 1, _, rfl, rfl, SqT.of (m5 _ _ hpn), rfl, d2, _, rfl, DPut.k (k := .inl (g k : Int)) hb5 (by omega), ?_⟩)⟩)⟩
          rw [putK_new _ n2]
          have s6 := free d2 H5 (.dK (kvb ++ [(.inl (g k : Int), .int (k : Nat))])) hd2H s5
          have hb6 : upd H5 d2 (.dK (kvb ++ [(.inl (g k : Int), .int (k : Nat))])) d2 = some (.dK (kvb ++ [(.inl (g k : Int), .int (k : Nat))])) := upd_same
          have hk6 := upd_at (o' := .dK (kvb ++ [(.inl (g k : Int), .int (k : Nat))])) hk5 n12
          have hw6 := upd_at (o' := .dK (kvb ++ [(.inl (g k : Int), .int (k : Nat))])) hw5 (Ne.symm n2w)
          have m6 : Mo H3 (upd H5 d2 (.dK (kvb ++ [(.inl (g k : Int), .int (k : Nat))]))) := fun b zs e => upd_at (m5 _ _ e) (ne_of (m5 _ _ e) hb5 (by intro z; cases z))
          show tSeq _ _ _ _ (upd H5 d2 (.dK (kvb ++ [(.inl (g k : Int), .int (k : Nat))])))
          generalize upd H5 d2 (.dK (kvb ++ [(.inl (g k : Int), .int (k : Nat))])) = H6 at s6 hk6 hb6 hw6 m6 ⊢
          have hD6 : Dcs H6 d1 d2 g (F ++ [k]) := ⟨_, _, hk6, hb6, keys_snoc hk1 _ _, by have z := keys_snoc hk2 (g k) (.int (k : Nat)); rw [show F.map g ++ [g k] = (F ++ [k]).map g by rw [List.map_append]; rfl] at z; exact z, vals_snoc (a := fun j => j) (b := g) hv1 n1 (fun j hj e => hk (e ▸ hj)), vals_snoc (a := g) (b := fun j => j) hv2 n2 fun j hj e => hk (by have := hG.inj j k (hWk.f j hj) hRk e; subst this; exact hj)⟩
          have hA6 := hA3.imp fun _ _ z => WAt.mo m6 z
          obtain ⟨c, hck⟩ : ∃ c, cs[k]? = some c := ⟨_, List.getElem?_eq_getElem hkn⟩
          obtain ⟨u, huk, hcu⟩ := hU.get' hck
          have hck' := hG.at_ k c hRk hck
          obtain ⟨u', huk', hcu'⟩ := hU'.get' hck'
          have hc6 := hcu.mo (tups_of s6)
          have hc6' := hcu'.mo (tups_of s6)
          refine ⟨_, rfl, _, rfl, .inr (.inl ⟨po, _, 1, _, rfl, rfl, SqT.of (m6 _ _ hpo), rfl, .inl ⟨ac, us, _, _, rfl, rfl, SqL.of (s6 _ _ hac), atI_nat huk, ?_⟩⟩)⟩
          refine ⟨_, rfl, _, rfl, .inr (.inl ⟨pn, _, 1, _, rfl, rfl, SqT.of (m6 _ _ hpn), rfl, .inl ⟨bc, us', _, _, rfl, rfl, SqL.of (s6 _ _ hbc), atI_nat huk', ?_⟩⟩)⟩
          refine ⟨_, rfl, _, rfl, c, g, u, u', rfl, hc6, hc6', fun H7 s7 => ⟨true, rfl, ifF Bool.false_ne_true ?_⟩⟩
          have hl10 : (vin c).length ≤ 10 := by
            cases c with
            | pair a b => show 2 ≤ 10; decide
            | fn n vs => obtain ⟨_, _, _, _, _, _, _, h⟩ := hcu; exact h
          refine ⟨_, ?_, fun _ _ h => h⟩
          refine ⟨_, rfl, c, u, rfl, hc6.mo (tups_of s7), fun l8 xs8 H8 s8 _ hl8 hA8 => ?_⟩
          have hx8 := hA8.len
          have hzl := hA6.len
          have s78 := s7.trans s8
          refine ⟨_, _, rfl, .inl ⟨_, SqL.of hl8, rfl⟩, _, rfl, by omega, by omega, for_range (n := xs8.length) (fun i σ H' => ∃ a11 zs2, σ = stA ao an ac bc d1 d2 wl (some (.ref po)) (some (.ref pn)) (some u) (some u') a11 ∧ Same H H' ∧ Dcs H' d1 d2 g (F ++ [k]) ∧ H' wl = some (.lst zs2) ∧ All2 (WAt g H') (W' ++ (vin c).take i) zs2) ?_ ?_ ?_⟩
          · exact ⟨a11, zs', rfl, s6.trans s78, hD6.at (fun o h => s78 _ _ h) (fun o h => s78 _ _ h), s78 _ _ hw6, by rw [List.take_zero, List.append_nil]; exact hA6.imp fun _ _ z => WAt.mo (tups_of s78) z⟩
          · rintro i σ H9 hi ⟨a11', zs2, rfl, s9, hD9, hw9, hA9⟩
            have e0 : (0 : Int) + (i : Nat) = ((i : Nat) : Int) := by omega
            have hic : i < (vin c).length := by omega
            have hzl2 := hA9.len
            have htl : (W' ++ (vin c).take i).length ≤ W'.length + 10 := by rw [List.length_append, List.length_take]; omega
            refine ⟨_, rfl, .inl ⟨rfl, _, SqL.of hw9⟩, ?_⟩
            refine ⟨_, rfl, c, u, rfl, hcu.mo (tups_of s9), fun la xa Ha sa _ hla hAa => ?_⟩
            obtain ⟨x, hxi, hxv⟩ := hAa.get' (List.getElem?_eq_getElem hic)
            refine ⟨_, rfl, .inl ⟨la, xa, _, _, rfl, rfl, SqL.of hla, by rw [e0]; exact atI_nat hxi, ?_⟩⟩
            refine ⟨_, rfl, mpc g c, u', rfl, hcu'.mo (tups_of (s9.trans sa)), fun lb xb Hb sb _ hlb hAb => ?_⟩
            obtain ⟨y, hyi, hyv⟩ := hAb.get' (show (vin (mpc g c))[i]? = some (mp g (vin c)[i]) by rw [vin_mpc, List.getElem?_map, List.getElem?_eq_getElem hic]; rfl)
            refine ⟨_, rfl, .inl ⟨lb, xb, _, _, rfl, rfl, SqL.of hlb, by rw [e0]; exact atI_nat hyi, two2, fun t ht => ?_⟩⟩
            have st := same_new ht (.tup [x, y])
            have sab := sa.trans (sb.trans st)
            have hwt := sab _ _ hw9
            refine ⟨wl, zs2, _, rfl, rfl, hwt, by omega, ?_⟩
            have mt : Mo (upd Hb t (.tup [x, y])) (upd (upd Hb t (.tup [x, y])) wl (.lst (zs2 ++ [.ref t]))) := fun b zs e => upd_at e (ne_of e hwt (by intro z; cases z))
            refine ⟨_, zs2 ++ [.ref t], rfl, free wl _ _ hwH (s9.trans sab), (hD9.at (fun o h => sab _ _ h) (fun o h => sab _ _ h)).at (fun o h => upd_at h n1w) (fun o h => upd_at h n2w), upd_same, ?_⟩
            rw [List.take_succ, List.getElem?_eq_getElem hic, ← List.append_assoc]
            exact (hA9.imp fun _ _ z => WAt.mo mt (WAt.mo (tups_of sab) z)).app (.cons ⟨t, x, y, rfl, mt _ _ upd_same, (hxv.mo (tups_of (sb.trans st))).mo mt, (hyv.mo (tups_of st)).mo mt⟩ .nil)
          · rintro σ H9 ⟨a11', zs2, rfl, s9, hD9, hw9, hA9⟩
            rw [← hx8, List.take_length] at hA9
            refine ⟨(cs.length - (F ++ [k]).length) * 11 + (W' ++ vin c).length, ?_, _, _, _, _, _, F ++ [k], W' ++ vin c, zs2, rfl, s9, hD9, hw9, hA9, hWk.add hk hck, rfl, ?_⟩
            · rw [List.length_append, List.length_append]
              show (cs.length - (F.length + 1)) * 11 + (W'.length + (vin c).length) < _
              omega
            · rw [List.length_append, List.length_append]
              show W'.length + (vin c).length ≤ 100 + 10 * (F.length + 1)
              omega
  rintro σ H' ⟨a7, a8, a9, a10, a11, F, rfl, s', ⟨kvs, kvb, hk1, hk2, e1, e2, _, _⟩, hWk⟩
  refine ⟨_, rfl, q d2 kvb F H' s' hd2H hk2 (by rw [keys_len e2, List.length_map]) hWk.nd fun k => hWk.done k⟩
end
end SW
set_option maxHeartbeats 4000000
namespace SW
open PySem L2 BV CL
seal PE PT PW PA PS PSs PTs PI PG PGs PO
abbrev s_law_come_to : Stmt := top 19
theorem sc_law_come_to : FnScope ["_law_cells", "_law_values", "_law_marked", "_law_step", "_law_k", "_law_value"] ["_law_cells", "_law_values"] (defScope s_law_come_to) := ⟨rfl, rfl, rfl, by decide +kernel, rfl, by decide +kernel, by decide +kernel⟩
def Dn (cs : List Cl) : Prop := ∀ (k j : Nat) (c : Cl), cs[k]? = some c → Vl.cell j ∈ vin c → j < k
theorem Dn.okc {cs : List Cl} (h : Dn cs) : Okc cs := fun k j c hc hj => Nat.lt_trans (h k j c hc hj) (List.getElem?_eq_some_iff.mp hc).1
theorem eqVs_cell (k i : Nat) : eqVs [.str "cell", .int (k : Nat)] [.str "cell", .int (i : Nat)] = decide (k = i) := by
  show ((eqV (.str "cell") (.str "cell") && (eqV (.int (k : Nat)) (.int (i : Nat)) && true)) && true) = _
  rw [Bool.and_true, Bool.and_true]
  show (("cell" : Str) == "cell" && ((k : Int) == (i : Int))) = _
  rw [Bool.eq_iff_iff]
  simp
  omega
def eC (H : Hp) (i : Nat) : V → Bool
  | .ref b => match H b with
    | some (.tup zs) => eqVs zs [.str "cell", .int (i : Nat)]
    | _ => false
  | _ => false
theorem eC_ref {H : Hp} {b : Addr} {k : Nat} (i : Nat) (h : H b = some (.tup [.str "cell", .int (k : Nat)])) : eC H i (.ref b) = decide (k = i) := by
  show (match H b with | some (.tup zs) => eqVs zs [.str "cell", .int (i : Nat)] | _ => false) = _
  rw [h]
  exact eqVs_cell k i
theorem eC_sc {H : Hp} {x : V} (i : Nat) (h : scV x = true) : eC H i x = false := by cases x <;> first | rfl | (cases h; done)
theorem any_cell {H : Hp} {ws : List Vl} {ys : List V} (h : All2 (VAt H) ws ys) (i : Nat) : ys.any (eC H i) = true ↔ Vl.cell i ∈ ws := by
  induction h with
  | nil => constructor <;> intro h <;> cases h
  | @cons x y ws ys hx _ ih =>
    rw [List.any_cons, Bool.or_eq_true, ih, List.mem_cons]
    refine or_congr ?_ Iff.rfl
    cases x with
    | sc v =>
      obtain ⟨rfl, hs⟩ := hx
      rw [eC_sc i hs]
      constructor <;> intro h <;> cases h
    | cell k =>
      obtain ⟨p, rfl, hp⟩ := hx
      rw [eC_ref i hp, decide_eq_true_iff]
      constructor
      · rintro rfl; rfl
      · intro e; cases e; rfl
section
variable {P : Program} {w : World} {K : PySem.W.Frag} {mg : Str → Option Value} {base : Heap} {f : Addr} {fd : FuncData} {f_law_parts : Addr} {d_law_parts : FuncData}
theorem ixN_nat {n j : Nat} (h : j < n) : ixN n (j : Int) = some j := by
  unfold ixN
  rw [if_pos (by omega), if_pos (by omega), Int.toNat_natCast]
inductive Rw where
  | skip (k : Nat) | unl (k : Nat) | oth (xs : List V)
def rv : Rw → List V
  | .skip k => [.str "skip", .int (k : Nat)]
  | .unl k => [.str "unless", .int (k : Nat)]
  | .oth xs => xs
def tr (bs : List Bool) (j : Nat) : Prop := bs[j]? = some true
theorem tr_set {bs : List Bool} {j : Nat} (h : j < bs.length) (i : Nat) : tr (bs.set j true) i ↔ tr bs i ∨ i = j := by
  unfold tr
  rw [List.getElem?_set]
  by_cases e : j = i
  · subst e
    rw [if_pos rfl, if_pos h]
    exact ⟨fun _ => .inr rfl, fun _ => rfl⟩
  · rw [if_neg e]
    exact ⟨fun h => .inl h, fun h => h.elim id fun z => absurd z.symm e⟩
def blv (bs : List Bool) : List V := bs.map V.bl
theorem blv_len (bs : List Bool) : (blv bs).length = bs.length := List.length_map ..
theorem blv_set (bs : List Bool) (j : Nat) : (blv bs).set j (.bl true) = blv (bs.set j true) := by unfold blv; rw [List.map_set]
theorem blv_at {bs : List Bool} {j : Nat} (h : j < bs.length) : (blv bs)[j]? = some (.bl bs[j]) := by unfold blv; rw [List.getElem?_map, List.getElem?_eq_getElem h]; rfl
theorem mem_take {α : Type} {l : List α} {i : Nat} {x y : α} (h : l[i]? = some x) : y ∈ l.take (i + 1) ↔ y ∈ l.take i ∨ y = x := by
  rw [List.take_succ, h, List.mem_append]
  refine or_congr Iff.rfl ?_
  show y ∈ [x] ↔ _
  rw [List.mem_singleton]
def stCo (ac av ml : Addr) (a3 a4 a5 : Option V) : St := [some (.ref ac), some (.ref av), some (.ref ml), a3, a4, a5]
structure Mk1 (cs : List Cl) (ws : List Vl) (m : Nat) (bs : List Bool) : Prop where
  l : bs.length = cs.length
  r : ∀ j, tr bs j → Rc cs ws j
  v : ∀ j, Vl.cell j ∈ ws → tr bs j
  c : ∀ k c j, m ≤ k → tr bs k → cs[k]? = some c → Vl.cell j ∈ vin c → tr bs j
theorem Mk1.done {cs : List Cl} {ws : List Vl} {bs : List Bool} (h : Mk1 cs ws 0 bs) (j : Nat) : tr bs j ↔ Rc cs ws j := by
  refine ⟨h.r j, fun r => ?_⟩
  induction r with
  | root hk => exact h.v _ hk
  | step _ hc hj ih => exact h.c _ _ _ (Nat.zero_le _) ih hc hj
def spCome : Sp := fun vs H Q _ => ∃ (ac av : Addr) (us xs : List V) (cs : List Cl) (ws : List Vl), vs = [.ref ac, .ref av] ∧ H ac = some (.lst us) ∧ H av = some (.lst xs) ∧ All2 (ClAt H) cs us ∧ All2 (VAt H) ws xs ∧ Dn cs ∧ Okv cs.length ws ∧ cs.length ≤ 63 ∧
  ∀ (N : Nat) (H' : Hp), Same H H' → (∀ F : List Nat, F.Nodup → (∀ k, k ∈ F ↔ Rc cs ws k) → N = F.length) → Q (.int (N : Nat)) H'
theorem ok_law_come_to (F : Fun K "_law_come_to" "_law_come_to" s_law_come_to f fd) (B : NoG mg)
    (G_law_parts : FnOk P w K mg base CX0 1 f_law_parts d_law_parts ["_law_cell"] spParts) (b_law_parts : Binds K d_law_parts ["_law_cell"] []) (k_law_parts : PySem.W.keepIn K (.ref f_law_parts) = true) (m_law_parts : mg "_law_parts" = some (.ref f_law_parts)) :
    FnOk P w K mg base CX0 2 f fd ["_law_cells", "_law_values"] spCome := by
  refine F.ok sc_law_come_to (fun vs H Q E h => ?_) (fun cdv A outer s H vs Q E hr h => ?_)
  · obtain ⟨ac, av, us, xs, cs, ws, rfl, _⟩ := h
    rfl
  obtain ⟨ac, av, us, xs, cs, ws, rfl, hac, hav, hU, hX, hDn, hV, hn, q⟩ := h
  have nd := sc_law_come_to.nd
  have hu := hr.units0
  have zz : (4000 : Nat) ≤ sizeLine := by decide
  refine ⟨_, (pss_cons (ps_setComp (i := 2) nd rfl rfl (CompScope.mk (N := ["_law_cells", "_law_values", "_law_marked", "_law_step", "_law_k", "_law_value"]) (sc := defScope s_law_come_to) (caps := [1]) (ns := ["_law_values"]) (by decide +kernel) rfl (by decide +kernel) rfl (by decide +kernel) rfl (by decide +kernel) (by decide +kernel)) rfl rfl rfl (pi_range1 rfl B.range_ (pa_cons (pe_callB (k_len (K := K)) rfl B.len_ bt_len (pa_cons (pv 0) pa_nil)) pa_nil)) (fun _ _ _ _ _ => pts_nil) (fun _ _ _ _ _ => (pe_cmpR (kInTL (K := K) hr.units) (pe_tup (pa_cons pe_str (pa_cons (pv 0) pa_nil))) (pv 1) rfl)))
      (pss_cons (ps_cut (ps_for PassesOwn.never rfl (pi_range1 rfl B.range_ (pa_cons (pe_callB (k_len (K := K)) rfl B.len_ bt_len (pa_cons (pv 0) pa_nil)) pa_nil)) (pg_name (i := 3) nd rfl (Or.inl rfl)) (pss_cons (ps_set (i := 4) nd rfl (Or.inl rfl) (pe_op op_sub (pe_op op_sub (pe_callB (k_len (K := K)) rfl B.len_ bt_len (pa_cons (pv 0) pa_nil)) pe_int) (pv 3)))
      (pss_one (ps_cut (ps_if (k_truth (K := K) (pe_ix (kIx (K := K) (w := w)) (pv 2) (pv 4) (fun _ _ => rfl)) (fun _ => rfl)) (pss_one (ps_cut (ps_for PassesOwn.never rfl (k_ilist (K := K) (pe_call G_law_parts (hr.mono (by first | decide | omega)) rfl m_law_parts k_law_parts b_law_parts .nil pass0 (pa_cons (pe_ix (kIx (K := K) (w := w)) (pv 0) (pv 4) (fun _ _ => rfl)) pa_nil))) (pg_name (i := 5) nd rfl (Or.inl rfl)) (pss_one (ps_cut (ps_if (k_truth (K := K) (pe_callB (k_isi (K := K)) rfl B.isinstance_ bt_isinstance (pa_cons (pv 5) (pa_cons (pe_bltn (v := .ty "tuple") rfl B.tuple_ bt_tuple rfl) pa_nil))) (fun _ => rfl)) (pss_one (ps_asg pe_bl (pg_sub (pv 2) (pe_ix (kIx (K := K) (w := w)) (pv 5) pe_int (fun _ _ => rfl)) set_list))) pss_nil)))))) pss_nil))))))
      (pss_one (ps_ret (pe_callB (k_len (K := K)) rfl B.len_ bt_len (pa_cons (pe_comp (CompScope.mk (N := ["_law_cells", "_law_values", "_law_marked", "_law_step", "_law_k", "_law_value"]) (sc := defScope s_law_come_to) (caps := []) (ns := []) (by decide +kernel) rfl (by decide +kernel) rfl (by decide +kernel) rfl (by decide +kernel) (by decide +kernel)) rfl rfl rfl (k_ilist (K := K) (pv 2)) (fun _ _ _ _ _ => (pts_one (k_truth (K := K) (pv 0) (fun _ => rfl)))) (fun _ _ _ _ _ => pe_int)) pa_nil)))))), ?_⟩
  have hlU := hU.len
  have hlX := hX.len
  refine ⟨_, rfl, _, _, rfl, .inl ⟨_, SqL.of hac, rfl⟩, _, rfl, by omega, by omega, comp_range (n := us.length) (fun i zs H' => Same H H' ∧ ∃ bs : List Bool, zs = blv bs ∧ bs.length = i ∧ ∀ j, j < i → (tr bs j ↔ Vl.cell j ∈ ws)) ⟨Same.refl _, [], rfl, rfl, fun j hj => absurd hj (Nat.not_lt_zero _)⟩ ?_ ?_ ?_⟩
  · rintro i zs H' hi ⟨_, bs, rfl, hl, _⟩
    rw [blv_len]; omega
  · rintro i zs H' hi ⟨s1, bs, rfl, hl, hb⟩
    have e0 : (0 : Int) + (i : Nat) = ((i : Nat) : Int) := by omega
    refine noTest ⟨_, rfl, two2, fun t ht => ?_⟩
    rw [e0] at *
    have st := same_new ht (.tup [.str "cell", .int (i : Nat)])
    refine ⟨_, rfl, t, av, _, xs, eC H i, rfl, rfl, SqT.of upd_same, rfl, SqL.of (st _ _ (s1 _ _ hav)), fun y hy => ?_, ?_⟩
    · obtain ⟨j, hj, e⟩ := List.getElem_of_mem hy
      obtain ⟨x', hx', hxv⟩ := hX.get (show xs[j]? = some y by rw [List.getElem?_eq_getElem hj, e])
      cases x' with
      | sc v =>
        obtain ⟨rfl, hs⟩ := hxv
        refine .inl ⟨?_, eC_sc i hs⟩
        cases y with
        | int n => exact .inr (.inr ⟨n, rfl⟩)
        | bl b => exact .inr (.inl ⟨b, rfl⟩)
        | non => exact .inl rfl
        | _ => cases hs
      | cell k =>
        obtain ⟨p, rfl, hp⟩ := hxv
        refine .inr ⟨p, _, rfl, SqT.of (st _ _ (s1 _ _ hp)), rfl, fun e => ?_, ?_⟩
        · subst e
          rw [s1 _ _ hp] at ht; cases ht
        · rw [eC_ref i hp, eqVs_cell]
    · refine ⟨s1.trans st, bs ++ [xs.any (eC H i)], by unfold blv; rw [List.map_append]; rfl, by rw [List.length_append, hl]; rfl, fun j hj => ?_⟩
      unfold tr
      by_cases c : j < i
      · rw [List.getElem?_append_left (by omega)]
        exact hb j c
      · have : j = i := by omega
        subst this
        rw [List.getElem?_append_right (by omega), hl, Nat.sub_self, ← any_cell hX j]
        show some _ = some true ↔ _
        rw [Option.some.injEq]
  rintro zs H1 ⟨s1, bs0, rfl, hl0, hb0⟩ ml hml
  have sm := same_new hml (.lst (blv bs0))
  have hmH : H ml = none := s1.free hml
  have free : ∀ (Hx : Hp) (o : HO), Same H Hx → Same H (upd Hx ml o) := fun Hx o hx b u h => by rw [upd_ne (fun e => by subst e; rw [hmH] at h; cases h)]; exact hx _ _ h
  refine ⟨fun σ H' => ∃ a3 a4 a5 bs, σ = stCo ac av ml a3 a4 a5 ∧ Same H H' ∧ H' ml = some (.lst (blv bs)) ∧ Mk1 cs ws 0 bs, ?_, ?_⟩
  · refine ⟨_, rfl, _, _, rfl, .inl ⟨_, SqL.of (sm _ _ (s1 _ _ hac)), rfl⟩, _, rfl, by omega, by omega, for_range (n := us.length) (fun i σ H' => ∃ a3 a4 a5 bs, σ = stCo ac av ml a3 a4 a5 ∧ Same H H' ∧ H' ml = some (.lst (blv bs)) ∧ Mk1 cs ws (us.length - i) bs) ?_ ?_ ?_⟩
    · refine ⟨none, none, none, bs0, rfl, s1.trans sm, upd_same, by omega, fun j hj => ?_, fun j hj => ?_, fun k c j hk ht hc _ => ?_⟩
      · have hjl := (List.getElem?_eq_some_iff.mp hj).1
        exact .root ((hb0 j (by omega)).mp hj)
      · exact (hb0 j (by have := hV j hj; omega)).mpr hj
      · have := (List.getElem?_eq_some_iff.mp hc).1
        omega
    · rintro i σ H' hi ⟨a3, a4, a5, bs, rfl, s', hm', hM⟩
      have ek : ((us.length : Nat) : Int) - 1 - (0 + (i : Nat)) = ((us.length - 1 - i : Nat) : Int) := by omega
      refine ⟨_, rfl, _, _, rfl, .inl ⟨_, SqL.of (s' _ _ hac), rfl⟩, _, _, rfl, rfl, _, rfl, _, _, rfl, rfl, ?_⟩
      show tCut _ _ (stCo ac av ml (some (.int (0 + (i : Nat)))) (some (.int (((us.length : Nat) : Int) - 1 - (0 + (i : Nat))))) a5) H'
      rw [ek]
      have hklt : us.length - 1 - i < cs.length := by omega
      have hm1 : us.length - i = us.length - 1 - i + 1 := by omega
      have hm2 : us.length - (i + 1) = us.length - 1 - i := by omega
      rw [hm1] at hM
      rw [hm2]
      generalize us.length - 1 - i = k at hklt hM
      have hkb : k < bs.length := by rw [hM.l]; exact hklt
      refine ⟨_, ?_, fun _ _ h => h⟩
      refine ⟨_, rfl, _, rfl, .inl ⟨ml, blv bs, _, _, rfl, rfl, SqL.of hm', atI_nat (blv_at hkb), bs[k], rfl, ?_⟩⟩
      have hnext : ∀ bs', bs'.length = cs.length → (∀ c, cs[k]? = some c → ∀ j, tr bs' j ↔ tr bs j ∨ (tr bs k ∧ Vl.cell j ∈ vin c)) → Mk1 cs ws k bs' := fun bs' hl hh => by
        obtain ⟨c, hck⟩ : ∃ c, cs[k]? = some c := ⟨_, List.getElem?_eq_getElem hklt⟩
        have hh := hh c hck
        refine ⟨hl, fun j hj => ?_, fun j hj => (hh j).mpr (.inl (hM.v j hj)), fun k' c' j hk' ht hc' hj => ?_⟩
        · rcases (hh j).mp hj with h | ⟨h1, h2⟩
          · exact hM.r j h
          · exact .step (hM.r k h1) hck h2
        · by_cases e : k' = k
          · subst e
            rw [hck] at hc'; cases hc'
            rcases (hh k').mp ht with h | ⟨h1, h2⟩
            · exact (hh j).mpr (.inr ⟨h, hj⟩)
            · exact (hh j).mpr (.inr ⟨h1, hj⟩)
          · rcases (hh k').mp ht with h | ⟨h1, h2⟩
            · exact (hh j).mpr (.inl (hM.c k' c' j (by omega) h hc' hj))
            · have := hDn k k' c hck h2
              omega
      by_cases hb : bs[k] = true
      · have htk : tr bs k := by unfold tr; rw [List.getElem?_eq_getElem hkb, hb]
        refine ifT hb ?_
        obtain ⟨c, hck⟩ : ∃ c, cs[k]? = some c := ⟨_, List.getElem?_eq_getElem hklt⟩
        obtain ⟨u, huk, hcu⟩ := hU.get' hck
        refine ⟨_, ?_, fun _ _ h => h⟩
        refine ⟨_, rfl, _, rfl, .inl ⟨ac, us, _, _, rfl, rfl, SqL.of (s' _ _ hac), atI_nat huk, c, u, rfl, hcu.mo (tups_of s'), fun l8 xs8 H8 s8 hf8 hl8 hA8 => ?_⟩⟩
        have hlm : l8 ≠ ml := fun e => by subst e; rw [hm'] at hf8; cases hf8
        have hx8 := hA8.len
        refine ⟨l8, rfl, ⟨_, SqL.of hl8⟩, for_list (xs := xs8) (fun t σ H9 => ∃ a3 a5 bs', σ = stCo ac av ml a3 (some (.int (k : Nat))) a5 ∧ Same H H9 ∧ H9 l8 = some (.lst xs8) ∧ Mo H8 H9 ∧ H9 ml = some (.lst (blv bs')) ∧ bs'.length = cs.length ∧ ∀ j, tr bs' j ↔ tr bs j ∨ Vl.cell j ∈ (vin c).take t) ?_ ?_ ?_ ?_⟩
        · exact ⟨_, _, bs, rfl, s'.trans s8, hl8, fun _ _ h => h, s8 _ _ hm', hM.l, fun j => ⟨fun h => .inl h, fun h => h.elim id fun z => by cases z⟩⟩
        · rintro t σ H9 _ ⟨a3, a5, bs', rfl, _, hl9, _⟩
          exact SqL.of hl9
        · rintro t x σ H9 hx ⟨a3, a5, bs', rfl, s9, hl9, m9, hm9, hlb, hb9⟩
          obtain ⟨x', hx', hxv⟩ := hA8.get hx
          refine ⟨_, ?_, fun _ _ h => h⟩
          cases x' with
          | sc v =>
            obtain ⟨rfl, hs⟩ := hxv
            obtain ⟨ty, hty, sct⟩ := sc_ty (K := K) (H := H9) (scV_sc hs)
            refine ⟨_, rfl, _, _, ty, _, rfl, hty, sct.tu, false, rfl, ifF Bool.false_ne_true ⟨_, _, bs', rfl, s9, hl9, m9, hm9, hlb, fun j => ?_⟩⟩
            rw [hb9 j, mem_take hx']
            exact ⟨fun h => h.elim .inl fun z => .inr (.inl z), fun h => h.elim .inl fun z => z.elim .inr fun e => by cases e⟩
          | cell i' =>
            obtain ⟨p, rfl, hp⟩ := hxv
            have hlt : i' < cs.length := Nat.lt_trans (hDn k i' c hck (List.mem_of_getElem? hx')) hklt
            refine ⟨_, rfl, _, _, _, _, rfl, .tup (m9 _ _ hp), kit_tt, true, rfl, ifT rfl ?_⟩
            refine ⟨_, rfl, _, rfl, .inr (.inl ⟨p, _, 1, _, rfl, rfl, SqT.of (m9 _ _ hp), rfl, ml, blv bs', (i' : Int), i', rfl, rfl, hm9, ixN_nat (by rw [blv_len, hlb]; exact hlt), ?_⟩)⟩
            rw [blv_set]
            refine ⟨_, _, bs'.set i' true, rfl, free _ _ s9, upd_at hl9 hlm, fun b zs e => upd_at (m9 _ _ e) (ne_of (m9 _ _ e) hm9 (by intro z; cases z)), upd_same, by rw [List.length_set]; exact hlb, fun j => ?_⟩
            rw [tr_set (by rw [hlb]; exact hlt), hb9 j, mem_take hx', or_assoc]
            refine or_congr Iff.rfl (or_congr Iff.rfl ⟨fun e => by rw [e], fun e => by cases e; rfl⟩)
        · rintro σ H9 ⟨a3, a5, bs', rfl, s9, hl9, m9, hm9, hlb, hb9⟩
          rw [← hx8, List.take_length] at hb9
          refine ⟨_, _, _, bs', rfl, s9, hm9, hnext bs' hlb fun c' hc' j => ?_⟩
          rw [hck] at hc'; cases hc'
          rw [hb9 j]
          exact or_congr Iff.rfl ⟨fun h => ⟨htk, h⟩, fun h => h.2⟩
      · refine ifF hb ⟨_, _, _, bs, rfl, s', hm', hnext bs hM.l fun c hc j => ⟨fun h => .inl h, fun h => h.elim id fun z => ?_⟩⟩
        have := z.1
        unfold tr at this
        rw [List.getElem?_eq_getElem hkb] at this
        exact absurd (Option.some.inj this) hb
    · rintro σ H' ⟨a3, a4, a5, bs, rfl, s', hm', hM⟩
      rw [Nat.sub_self] at hM
      exact ⟨a3, a4, a5, bs, rfl, s', hm', hM⟩
  rintro σ H2 ⟨a3, a4, a5, bs, rfl, s2, hm2, hM⟩
  refine ⟨_, rfl, ml, rfl, ⟨_, SqL.of hm2⟩, comp_list (xs := blv bs) (fun i zs H' => Same H2 H' ∧ zs.length = ((List.range i).filter fun j => bs[j]? == some true).length ∧ zs.length ≤ i) ⟨Same.refl _, rfl, Nat.zero_le _⟩ ?_ ?_ ?_⟩
  · rintro i zs H' hi ⟨s', _, hl⟩
    rw [blv_len, hM.l] at hi
    exact ⟨SqL.of (s' _ _ hm2), by omega⟩
  · rintro i x zs H' hx ⟨s', hz, hl⟩
    have hi : i < bs.length := by rw [← blv_len]; exact (List.getElem?_eq_some_iff.mp hx).1
    have ex : x = .bl bs[i] := by rw [blv_at hi] at hx; exact (Option.some.inj hx).symm
    subst ex
    refine ⟨_, rfl, bs[i], rfl, ?_⟩
    rw [List.range_succ, List.filter_append, List.length_append]
    by_cases hb : bs[i] = true
    · refine ifT hb ⟨s', ?_, ?_⟩
      · rw [List.length_append, hz, List.filter_cons_of_pos (by rw [List.getElem?_eq_getElem hi, hb]; rfl)]
        rfl
      · rw [List.length_append]; show zs.length + 1 ≤ _; omega
    · refine ifF hb ⟨s', ?_, by omega⟩
      rw [hz, List.filter_cons_of_neg (by rw [List.getElem?_eq_getElem hi]; intro z; exact hb (Option.some.inj (eq_of_beq z)))]
      rfl
  · rintro zs H3 ⟨s3, hz, _⟩ D hD
    refine ⟨_, _, rfl, .inl ⟨_, SqL.of upd_same, rfl⟩, ?_⟩
    rw [blv_len] at hz
    rw [hz]
    refine q _ _ (s2.trans (s3.trans (same_new hD _))) fun F hF hm => nd_same (List.Pairwise.filter _ List.nodup_range) hF fun k => ?_
    rw [List.mem_filter, hm k, ← hM.done k, List.mem_range]
    unfold tr
    constructor
    · exact fun h => eq_of_beq h.2
    · exact fun h => ⟨(List.getElem?_eq_some_iff.mp h).1, by rw [h]; rfl⟩
end
end SW
namespace SW
open PySem L2 BV CL
theorem idx_get {ks : List Nat} {k : Nat} (h : k ∈ ks) : ks[ks.idxOf k]? = some k := by
  have hlt : ks.idxOf k < ks.length := List.idxOf_lt_length_of_mem h
  rw [List.getElem?_eq_getElem hlt, List.getElem_idxOf hlt]
theorem idx_inj {ks : List Nat} {j k : Nat} (hj : j ∈ ks) (hk : k ∈ ks) (e : ks.idxOf j = ks.idxOf k) : j = k := by
  have h1 := idx_get hj
  rw [e, idx_get hk] at h1
  exact (Option.some.inj h1).symm
def fr (cs : List Cl) (ks : List Nat) : List Cl := ks.map fun k => mvc ks (cellAt cs k)
theorem fr_len (cs : List Cl) (ks : List Nat) : (fr cs ks).length = ks.length := List.length_map ..
theorem fr_at {cs : List Cl} {ks : List Nat} {k : Nat} {c : Cl} (hk : k ∈ ks) (hc : cs[k]? = some c) : (fr cs ks)[ks.idxOf k]? = some (mpc (fun k => ks.idxOf k) c) := by
  unfold fr
  rw [List.getElem?_map, idx_get hk]
  show some (mvc ks (cellAt cs k)) = _
  rw [cellAt_of hc, mvc_mpc]
theorem alk_kept {cs : List Cl} {ws : List Vl} {ks : List Nat} (h : Kept cs ws ks) : Alk cs (fr cs ks) ws (fun k => ks.idxOf k) :=
  ⟨fun j k hj hk e => idx_inj ((h.is j).mpr hj) ((h.is k).mpr hk) e, fun k c hk hc => fr_at ((h.is k).mpr hk) hc⟩
section
variable {cs e : List Cl} {ws : List Vl} {ks : List Nat}
theorem fre_at {k : Nat} {c : Cl} (hk : k ∈ ks) (hc : cs[k]? = some c) : (fr cs ks ++ e)[ks.idxOf k]? = some (mpc (fun k => ks.idxOf k) c) := by
  rw [List.getElem?_append_left (by rw [fr_len]; exact List.idxOf_lt_length_of_mem hk)]
  exact fr_at hk hc
theorem rc_to (hO : Okc cs) (hV : Okv cs.length ws) (h : Kept cs ws ks) {k : Nat} (r : Rc cs ws k) : Rc (fr cs ks ++ e) (ws.map (mv ks)) (ks.idxOf k) := by
  induction r with
  | root hk => exact .root (List.mem_map.mpr ⟨_, hk, rfl⟩)
  | @step k j c hr hc hj ih =>
    refine .step ih (fre_at ((h.is k).mpr hr) hc) ?_
    rw [vin_mpc]
    exact List.mem_map.mpr ⟨_, hj, rfl⟩
theorem rc_from (hO : Okc cs) (hV : Okv cs.length ws) (h : Kept cs ws ks) {j : Nat} (r : Rc (fr cs ks ++ e) (ws.map (mv ks)) j) : ∃ k, Rc cs ws k ∧ ks.idxOf k = j := by
  induction r with
  | root hk =>
    rw [mv_mp] at hk
    obtain ⟨k, h1, h2⟩ := mem_mp hk
    exact ⟨k, .root h1, h2⟩
  | @step i j c hr hc hj ih =>
    obtain ⟨k, hk, rfl⟩ := ih
    obtain ⟨c0, hc0⟩ : ∃ c0, cs[k]? = some c0 := ⟨_, List.getElem?_eq_getElem (hk.lt hO hV)⟩
    rw [fre_at ((h.is k).mpr hk) hc0] at hc
    cases hc
    rw [vin_mpc] at hj
    obtain ⟨k', h1, h2⟩ := mem_mp hj
    exact ⟨k', .step hk hc0 h1, h2⟩
theorem okc_fr (hO : Okc cs) (hV : Okv cs.length ws) (h : Kept cs ws ks) (he : ∀ c ∈ e, ∀ j, Vl.cell j ∉ vin c) : Okc (fr cs ks ++ e) := fun k j c hc hj => by
  rw [List.length_append, fr_len]
  by_cases hk : k < ks.length
  · obtain ⟨k0, hk0⟩ : ∃ k0, ks[k]? = some k0 := ⟨_, List.getElem?_eq_getElem hk⟩
    have hm := List.mem_of_getElem? hk0
    have hr := (h.is k0).mp hm
    obtain ⟨c0, hc0⟩ : ∃ c0, cs[k0]? = some c0 := ⟨_, List.getElem?_eq_getElem (hr.lt hO hV)⟩
    have e1 := fre_at (e := e) hm hc0
    rw [idx_at h.nd hk0, hc] at e1
    cases e1
    rw [vin_mpc] at hj
    obtain ⟨i, h1, h2⟩ := mem_mp hj
    have := List.idxOf_lt_length_of_mem ((h.is i).mpr (.step hr hc0 h1))
    have h2' : ks.idxOf i = j := h2
    omega
  · rw [List.getElem?_append_right (by rw [fr_len]; omega)] at hc
    exact absurd hj (he c (List.mem_of_getElem? hc) j)
theorem okv_fr (h : Kept cs ws ks) : Okv (fr cs ks ++ e).length (ws.map (mv ks)) := fun j hj => by
  rw [mv_mp] at hj
  obtain ⟨k, h1, h2⟩ := mem_mp hj
  have := List.idxOf_lt_length_of_mem ((h.is k).mpr (.root h1))
  have h2' : ks.idxOf k = j := h2
  rw [List.length_append, fr_len]
  omega
variable {ks2 : List Nat}
theorem len2 (hO : Okc cs) (hV : Okv cs.length ws) (h : Kept cs ws ks) (h2 : Kept (fr cs ks ++ e) (ws.map (mv ks)) ks2) : ks2.length = ks.length := by
  rw [nd_same h2.nd (List.nodup_range (n := ks.length)) fun j => ?_, List.length_range]
  rw [List.mem_range, h2.is j]
  constructor
  · intro r
    obtain ⟨k, hk, rfl⟩ := rc_from hO hV h r
    exact List.idxOf_lt_length_of_mem ((h.is k).mpr hk)
  · intro hj
    have hk : ks[j]? = some ks[j] := List.getElem?_eq_getElem hj
    rw [← idx_at h.nd hk]
    exact rc_to hO hV h ((h.is _).mp (List.mem_of_getElem? hk))
theorem alk2 (hO : Okc cs) (hV : Okv cs.length ws) (h : Kept cs ws ks) (h2 : Kept (fr cs ks ++ e) (ws.map (mv ks)) ks2) : Alk cs (fr (fr cs ks ++ e) ks2) ws (fun k => ks2.idxOf (ks.idxOf k)) where
  inj := fun j k hj hk e1 => idx_inj ((h.is j).mpr hj) ((h.is k).mpr hk) (idx_inj ((h2.is _).mpr (rc_to hO hV h hj)) ((h2.is _).mpr (rc_to hO hV h hk)) e1)
  at_ := fun k c hk hc => by
    have := fr_at ((h2.is _).mpr (rc_to hO hV h hk)) (fre_at (e := e) ((h.is k).mpr hk) hc)
    rw [mpc_mpc] at this
    exact this
end
theorem mv_mv (ks ks2 : List Nat) (ws : List Vl) : (ws.map (mv ks)).map (mv ks2) = ws.map (mp fun k => ks2.idxOf (ks.idxOf k)) := by
  rw [List.map_map]
  refine List.map_congr_left fun x _ => ?_
  cases x <;> rfl
end SW
set_option maxHeartbeats 8000000
namespace SW
open PySem L2 BV CL
seal PE PT PW PA PS PSs PTs PI PG PGs PO
abbrev s_law : Stmt := top 20
theorem sc_law : FnScope ["_law_script", "_law_heap", "_law_values", "_law_cell", "_law_asked", "_law_k", "_law_cells", "_law_handed", "_law_found", "_law_fresh", "_law_many", "_law_back", "_law_kept", "_law_both", "_law_again"] ["_law_script"] (defScope s_law) := ⟨rfl, rfl, rfl, by decide +kernel, rfl, by decide +kernel, by decide +kernel⟩
section
variable {P : Program} {w : World} {K : PySem.W.Frag} {mg : Str → Option Value} {base : Heap} {f fi : Addr} {fd di : FuncData} {C : Addr} {mf : Str → Addr} {md : Str → FuncData} {f_law_cell_at f_law_drawn f_law_made f_law_alike f_law_come_to f_law_same f_swept : Addr} {d_law_cell_at d_law_drawn d_law_made d_law_alike d_law_come_to d_law_same d_swept : FuncData}
def cv (n : Nat) : List Vl := (List.range n).map Vl.cell
theorem cv_mem {n k : Nat} : Vl.cell k ∈ cv n ↔ k < n := by
  unfold cv
  rw [List.mem_map]
  constructor
  · rintro ⟨j, hj, e⟩
    cases e
    exact List.mem_range.mp hj
  · exact fun h => ⟨k, List.mem_range.mpr h, rfl⟩
theorem cv_succ (n : Nat) : cv (n + 1) = cv n ++ [.cell n] := by unfold cv; rw [List.range_succ, List.map_append]; rfl
theorem cv_len (n : Nat) : (cv n).length = n := by unfold cv; rw [List.length_map, List.length_range]
theorem plV {H : Hp} {x : Vl} {v : V} (h : VAt H x v) : plainV v = true := by
  cases x with
  | sc y => obtain ⟨rfl, hs⟩ := h; exact sc_plain (scV_sc hs)
  | cell k => obtain ⟨p, rfl, _⟩ := h; rfl
theorem plC {H : Hp} {c : Cl} {v : V} (h : ClAt H c v) : plainV v = true := by
  cases c with
  | pair a b => obtain ⟨p, _, _, rfl, _⟩ := h; rfl
  | fn n vs => obtain ⟨p, _, _, rfl, _⟩ := h; rfl
theorem dqs {K : PySem.W.Frag} {H : Hp} {xs : List V} (hp : ∀ x ∈ xs, plainV x = true) : ∀ (j : Nat) u v, xs[j]? = some u → xs[j]? = some v → Dq K H 0 u v := fun j u v hu hv => by
  rw [hu] at hv
  cases hv
  exact ⟨hp u (List.mem_of_getElem? hu), rfl⟩
theorem plAll {H : Hp} {ws : List Vl} {xs : List V} (h : All2 (VAt H) ws xs) : ∀ x ∈ xs, plainV x = true := fun x hx => by
  obtain ⟨j, hj, e⟩ := List.getElem_of_mem hx
  obtain ⟨x', _, hv⟩ := h.get (show xs[j]? = some x by rw [List.getElem?_eq_getElem hj, e])
  exact plV hv
theorem plAllC {H : Hp} {cs : List Cl} {us : List V} (h : All2 (ClAt H) cs us) : ∀ x ∈ us, plainV x = true := fun x hx => by
  obtain ⟨j, hj, e⟩ := List.getElem_of_mem hx
  obtain ⟨x', _, hv⟩ := h.get (show us[j]? = some x by rw [List.getElem?_eq_getElem hj, e])
  exact plC hv
theorem all2_take {R : Vl → V → Prop} {ws : List Vl} {xs : List V} (h : All2 R ws xs) (n : Nat) : All2 R (ws.take n) (xs.take n) := by
  induction h generalizing n with
  | nil => rw [List.take_nil, List.take_nil]; exact .nil
  | cons a _ ih =>
    cases n with
    | zero => exact .nil
    | succ n => exact .cons a (ih n)
theorem cut_last {us : List V} {u : V} : cutV (us ++ [u]) none (some (-1)) = us := by
  unfold cutV HT.sIx
  simp
  rw [show (-1 + ((us.length : Int) + 1)).toNat = us.length by omega]
  simp
theorem cut838 (ns : List Int) : ∃ cs : List Int, cutV (ns.map V.int) (some 8) (some 38) = cs.map V.int ∧ cs.length ≤ 30 := by
  refine ⟨(ns.drop 8).take 30, ?_, by rw [List.length_take]; omega⟩
  have := cut_both (ns.map V.int) 8 38
  rw [List.map_take, List.map_drop]
  exact this
def stL (sa o vl : Addr) (a3 a4 a5 a6 a7 a8 a9 a10 a11 a12 a13 a14 : Option V) : St := [some (.ref sa), some (.ref o), some (.ref vl), a3, a4, a5, a6, a7, a8, a9, a10, a11, a12, a13, a14]
def spLaw (K : PySem.W.Frag) : Sp := fun vs H Q _ => ∃ (a : Addr) (ns : List Int), vs = [.ref a] ∧ SqL K H a (ns.map V.int) ∧ ns.length ≤ 63 ∧ ∀ H', Q (.bl true) H'
theorem ok_law (F : Fun K "law" "law" s_law f fd) (B : NoG mg) (RC : RCls K C mf md) (M_Cells : Mk K C fi) (m_Cells : mg "Cells" = some (.ref C))
    (G___init__ : FnOk P w K mg base CX0 1 fi di ["self"] (spInit C)) (b___init__ : Binds K di ["self"] [])
    (G_put : FnOk P w K mg base CX0 1 (mf "put") (md "put") ["self", "cell"] (spPut C)) (G_many : FnOk P w K mg base CX0 1 (mf "many") (md "many") ["self"] (spMany C)) (G_told : FnOk P w K mg base CX0 1 (mf "told") (md "told") ["self"] (spToldC C))
    (G_law_cell_at : FnOk P w K mg base CX0 1 f_law_cell_at d_law_cell_at ["_law_script", "_law_k"] (spCellA K)) (b_law_cell_at : Binds K d_law_cell_at ["_law_script", "_law_k"] []) (k_law_cell_at : PySem.W.keepIn K (.ref f_law_cell_at) = true) (m_law_cell_at : mg "_law_cell_at" = some (.ref f_law_cell_at))
    (G_law_same : FnOk P w K mg base CX0 1 f_law_same d_law_same ["_law_found", "_law_due"] (spSame 0)) (b_law_same : Binds K d_law_same ["_law_found", "_law_due"] []) (k_law_same : PySem.W.keepIn K (.ref f_law_same) = true) (m_law_same : mg "_law_same" = some (.ref f_law_same))
    (G_law_drawn : FnOk P w K mg base CX0 2 f_law_drawn d_law_drawn ["_law_cell", "_law_values"] spDrawn) (b_law_drawn : Binds K d_law_drawn ["_law_cell", "_law_values"] []) (k_law_drawn : PySem.W.keepIn K (.ref f_law_drawn) = true) (m_law_drawn : mg "_law_drawn" = some (.ref f_law_drawn))
    (G_law_made : FnOk P w K mg base CX0 3 f_law_made d_law_made ["_law_cell", "_law_values"] spMade) (b_law_made : Binds K d_law_made ["_law_cell", "_law_values"] []) (k_law_made : PySem.W.keepIn K (.ref f_law_made) = true) (m_law_made : mg "_law_made" = some (.ref f_law_made))
    (G_law_alike : FnOk P w K mg base CX0 3 f_law_alike d_law_alike ["_law_olds", "_law_news", "_law_old_cells", "_law_new_cells"] spAlike) (b_law_alike : Binds K d_law_alike ["_law_olds", "_law_news", "_law_old_cells", "_law_new_cells"] []) (k_law_alike : PySem.W.keepIn K (.ref f_law_alike) = true) (m_law_alike : mg "_law_alike" = some (.ref f_law_alike))
    (G_law_come_to : FnOk P w K mg base CX0 2 f_law_come_to d_law_come_to ["_law_cells", "_law_values"] spCome) (b_law_come_to : Binds K d_law_come_to ["_law_cells", "_law_values"] []) (k_law_come_to : PySem.W.keepIn K (.ref f_law_come_to) = true) (m_law_come_to : mg "_law_come_to" = some (.ref f_law_come_to))
    (G_swept : FnOk P w K mg base CX0 4 f_swept d_swept ["cells", "values"] (spSwept C)) (b_swept : Binds K d_swept ["cells", "values"] []) (k_swept : PySem.W.keepIn K (.ref f_swept) = true) (m_swept : mg "swept" = some (.ref f_swept)) :
    FnOk P w K mg base CX0 5 f fd ["_law_script"] (spLaw K) := by
  refine F.ok sc_law (fun vs H Q E h => ?_) (fun cdv A outer s H vs Q E hr h => ?_)
  · obtain ⟨a, ns, rfl, _⟩ := h
    rfl
  obtain ⟨sa, ns, rfl, hS, hn, q⟩ := h
  have nd := sc_law.nd
  have hu := hr.units0
  have zz : (4000 : Nat) ≤ sizeLine := by decide
  refine ⟨_, (pss_cons (ps_set (i := 1) nd rfl (Or.inl rfl) (pe_make0 M_Cells G___init__ (hr.mono (by omega)) rfl m_Cells b___init__ .nil pass0))
      (pss_cons (ps_set (i := 2) nd rfl (Or.inl rfl) (pe_lst pa_nil))
      (pss_cons (ps_cut (ps_for PassesOwn.never rfl (k_ilist (K := K) (pe_slice (kSl (K := K)) (pv 0) (po_some pe_int) (po_some pe_int))) (pg_name (i := 3) nd rfl (Or.inl rfl)) (pss_one (ps_expr (k_bm (K := K) PySem.F.plainAttrs_list PySem.F.slot_list_append PySem.F.type_list_append mt_append (pv 2) (pa_cons (pe_meth (pv 1) RC.cl RC.m_put G_put (hr.mono (by omega)) RC.b_put .nil pass0 (pa_cons (pe_call G_law_made (hr.mono (by first | decide | omega)) rfl m_law_made k_law_made b_law_made .nil pass0 (pa_cons (pv 3) (pa_cons (pv 2) pa_nil))) pa_nil)) pa_nil))))))
      (pss_cons (ps_set (i := 4) nd rfl (Or.inl rfl) (pe_lst pa_nil))
      (pss_cons (ps_cut (ps_for PassesOwn.never rfl (pi_range1 rfl B.range_ (pa_cons (pe_op op_mod (pe_call G_law_cell_at (hr.mono (by first | decide | omega)) rfl m_law_cell_at k_law_cell_at b_law_cell_at .nil pass0 (pa_cons (pv 0) (pa_cons pe_int pa_nil))) pe_int) pa_nil)) (pg_name (i := 5) nd rfl (Or.inl rfl)) (pss_one (ps_expr (k_bm (K := K) PySem.F.plainAttrs_list PySem.F.slot_list_append PySem.F.type_list_append mt_append (pv 4) (pa_cons (pe_call G_law_drawn (hr.mono (by first | decide | omega)) rfl m_law_drawn k_law_drawn b_law_drawn .nil pass0 (pa_cons (pe_op uAdd (pe_call G_law_cell_at (hr.mono (by first | decide | omega)) rfl m_law_cell_at k_law_cell_at b_law_cell_at .nil pass0 (pa_cons (pv 0) (pa_cons (pe_op uAdd pe_int (pv 5)) pa_nil))) (pe_op uMul pe_int (pv 5))) (pa_cons (pe_op uAdd (pv 2) (pe_slice (kSl (K := K)) (pv 4) po_none (po_some pe_int))) pa_nil))) pa_nil))))))
      (pss_cons (ps_set (i := 6) nd rfl (Or.inl rfl) (pe_meth0 (pv 1) RC.cl RC.m_told G_told (hr.mono (by omega)) RC.b_told .nil pass0 ))
      (pss_cons (ps_set (i := 7) nd rfl (Or.inl rfl) (pe_callTy (k_list (K := K)) rfl B.list_ bt_list (pa_cons (pv 4) pa_nil)))
      (pss_cons (ps_set (i := 8) nd rfl (Or.inl rfl) (pe_call G_swept (hr.mono (by first | decide | omega)) rfl m_swept k_swept b_swept .nil pass0 (pa_cons (pv 1) (pa_cons (pv 7) pa_nil))))
      (pss_cons (ps_cut (ps_if (PW.pt (pw_or (pt_not (k_truth (K := K) (pe_callB (k_isi (K := K)) rfl B.isinstance_ bt_isinstance (pa_cons (pv 8) (pa_cons (pe_bltn (v := .ty "tuple") rfl B.tuple_ bt_tuple rfl) pa_nil))) (fun _ => rfl))) (pw_or (pt_cmpR (kNe (K := K) hu) (pe_callB (k_len (K := K)) rfl B.len_ bt_len (pa_cons (pv 8) pa_nil)) pe_int rfl) (pw_or (pt_not (k_truth (K := K) (pe_callB (k_isi (K := K)) rfl B.isinstance_ bt_isinstance (pa_cons (pe_ix (kIx (K := K) (w := w)) (pv 8) pe_int (fun _ _ => rfl)) (pa_cons (pe_bltn (v := .ty "list") rfl B.list_ bt_list rfl) pa_nil))) (fun _ => rfl))) (pw_or1 (pt_cmpR (kNe (K := K) hu) (pe_callB (k_len (K := K)) rfl B.len_ bt_len (pa_cons (pe_ix (kIx (K := K) (w := w)) (pv 8) pe_int (fun _ _ => rfl)) pa_nil)) (pe_callB (k_len (K := K)) rfl B.len_ bt_len (pa_cons (pv 4) pa_nil)) rfl)))))) (pss_one (ps_ret pe_bl)) pss_nil))
      (pss_cons (ps_set (i := 9) nd rfl (Or.inl rfl) (pe_ix (kIx (K := K) (w := w)) (pv 8) pe_int (fun _ _ => rfl)))
      (pss_cons (ps_set (i := 10) nd rfl (Or.inl rfl) (pe_meth0 (pv 9) RC.cl RC.m_many G_many (hr.mono (by omega)) RC.b_many .nil pass0 ))
      (pss_cons (ps_set (i := 11) nd rfl (Or.inl rfl) (pe_call G_law_alike (hr.mono (by first | decide | omega)) rfl m_law_alike k_law_alike b_law_alike .nil pass0 (pa_cons (pv 4) (pa_cons (pe_ix (kIx (K := K) (w := w)) (pv 8) pe_int (fun _ _ => rfl)) (pa_cons (pv 6) (pa_cons (pe_meth0 (pv 9) RC.cl RC.m_told G_told (hr.mono (by omega)) RC.b_told .nil pass0 ) pa_nil))))))
      (pss_cons (ps_cut (ps_if (PW.pt (pw_or (pt_cmpR op_isN (pv 11) pe_non rfl) (pw_or (pt_not (k_truth (K := K) (pe_call G_law_same (hr.mono (by first | decide | omega)) rfl m_law_same k_law_same b_law_same .nil pass0 (pa_cons (pv 10) (pa_cons (pe_call G_law_come_to (hr.mono (by first | decide | omega)) rfl m_law_come_to k_law_come_to b_law_come_to .nil pass0 (pa_cons (pv 6) (pa_cons (pv 4) pa_nil))) pa_nil))) (fun _ => rfl))) (pw_or1 (pt_cmpR (kNe (K := K) hu) (pe_callB k_lenD rfl B.len_ bt_len (pa_cons (pv 11) pa_nil)) (pv 10) rfl))))) (pss_one (ps_ret pe_bl)) pss_nil))
      (pss_cons (ps_expr (pe_meth (pv 9) RC.cl RC.m_put G_put (hr.mono (by omega)) RC.b_put .nil pass0 (pa_cons (pe_tup (pa_cons pe_str (pa_cons pe_int (pa_cons pe_non pa_nil)))) pa_nil)))
      (pss_cons (ps_expr (k_bm (K := K) PySem.F.plainAttrs_list PySem.F.slot_list_append PySem.F.type_list_append mt_append (pe_ix (kIx (K := K) (w := w)) (pv 8) pe_int (fun _ _ => rfl)) (pa_cons pe_int pa_nil)))
      (pss_cons (ps_set (i := 12) nd rfl (Or.inl rfl) (pe_callTy (k_list (K := K)) rfl B.list_ bt_list (pa_cons (pe_ix (kIx (K := K) (w := w)) (pv 8) pe_int (fun _ _ => rfl)) pa_nil)))
      (pss_cons (ps_cut (ps_if (PW.pt (pw_or (pt_cmpR (kNeLD (K := K) hr.units) (pe_meth0 (pv 1) RC.cl RC.m_told G_told (hr.mono (by omega)) RC.b_told .nil pass0 ) (pv 6) rfl) (pw_or1 (pt_cmpR (kNeLD (K := K) hr.units) (pv 7) (pv 4) rfl)))) (pss_one (ps_ret pe_bl)) pss_nil))
      (pss_cons (ps_expr (pe_call G_swept (hr.mono (by first | decide | omega)) rfl m_swept k_swept b_swept .nil pass0 (pa_cons (pv 1) (pa_cons (pe_slice (kSl (K := K)) (pv 2) po_none (po_some pe_int)) pa_nil))))
      (pss_cons (ps_set (i := 13) nd rfl (Or.inl rfl) (pe_call G_swept (hr.mono (by first | decide | omega)) rfl m_swept k_swept b_swept .nil pass0 (pa_cons (pv 1) (pa_cons (pv 7) pa_nil))))
      (pss_cons (ps_if (pt_cmpR op_isN (pe_call G_law_alike (hr.mono (by first | decide | omega)) rfl m_law_alike k_law_alike b_law_alike .nil pass0 (pa_cons (pv 4) (pa_cons (pe_ix (kIx (K := K) (w := w)) (pv 13) pe_int (fun _ _ => rfl)) (pa_cons (pv 6) (pa_cons (pe_meth0 (pe_ix (kIx (K := K) (w := w)) (pv 13) pe_int (fun _ _ => rfl)) RC.cl RC.m_told G_told (hr.mono (by omega)) RC.b_told .nil pass0 ) pa_nil))))) pe_non rfl) (pss_one (ps_ret pe_bl)) pss_nil)
      (pss_cons (ps_set (i := 14) nd rfl (Or.inl rfl) (pe_call G_swept (hr.mono (by first | decide | omega)) rfl m_swept k_swept b_swept .nil pass0 (pa_cons (pv 9) (pa_cons (pe_slice (kSl (K := K)) (pe_ix (kIx (K := K) (w := w)) (pv 8) pe_int (fun _ _ => rfl)) po_none (po_some (pe_un un_neg pe_int))) pa_nil))))
      (pss_cons (ps_cut (ps_if (PW.pt (pw_or (pt_cmpR (kNeLD (K := K) hr.units) (pe_ix (kIx (K := K) (w := w)) (pv 8) pe_int (fun _ _ => rfl)) (pv 12) rfl) (pw_or1 (pt_cmpR (kNe (K := K) hu) (pe_meth0 (pe_ix (kIx (K := K) (w := w)) (pv 14) pe_int (fun _ _ => rfl)) RC.cl RC.m_many G_many (hr.mono (by omega)) RC.b_many .nil pass0 ) (pv 10) rfl)))) (pss_one (ps_ret pe_bl)) pss_nil))
      (pss_one (ps_ret (pe_cmpR op_notN (pe_call G_law_alike (hr.mono (by first | decide | omega)) rfl m_law_alike k_law_alike b_law_alike .nil pass0 (pa_cons (pv 4) (pa_cons (pe_ix (kIx (K := K) (w := w)) (pv 14) pe_int (fun _ _ => rfl)) (pa_cons (pv 6) (pa_cons (pe_meth0 (pe_ix (kIx (K := K) (w := w)) (pv 14) pe_int (fun _ _ => rfl)) RC.cl RC.m_told G_told (hr.mono (by omega)) RC.b_told .nil pass0 ) pa_nil))))) pe_non rfl))))))))))))))))))))))))), ?_⟩
  refine fun o dx0 ho hdx0 hn0 => ⟨o, dx0, rfl, upd_same, fun L hL => ⟨rfl, ?_⟩⟩
  obtain ⟨sA, cA, fA⟩ := made_ok (C := C) ho hdx0 hn0 hL
  generalize upd (upd (upd (upd H dx0 (.own o)) o (.ins C dx0 [])) L (.lst [])) o (.ins C dx0 [("in_order", .ref L)]) = HA at sA cA ⊢
  refine ⟨(by show 0 ≤ sizeLine; decide), fun vl hvl => ?_⟩
  have s1 := sA.trans (same_new hvl (.lst []))
  have hv1 : upd HA vl (.lst []) vl = some (.lst []) := upd_same
  have hC1 := cA.same (same_new hvl (.lst []))
  have hvH : H vl = none := sA.free hvl
  generalize upd HA vl (.lst []) = H1 at s1 hv1 hC1 ⊢
  have hvL : vl ≠ L := fun e => by subst e; obtain ⟨_, _, z⟩ := cA; rw [z] at hvl; cases hvl
  have free : ∀ (a : Addr) (Hx : Hp) (o : HO), H a = none → Same H Hx → Same H (upd Hx a o) := fun a Hx o ha hx b u h => by rw [upd_ne (fun e => by subst e; rw [ha] at h; cases h)]; exact hx _ _ h
  have freeB : ∀ (a : Addr) (Hx Hy : Hp), H a = none → Same H Hx → Bt a Hx Hy → Same H Hy := fun a Hx Hy ha hx hb b u h => hb _ _ (hx _ _ h) fun e => by subst e; rw [ha] at h; cases h
  have fL : H L = none := fA
  refine ⟨fun σ H' => ∃ a3 us vs cs, σ = stL sa o vl a3 none none none none none none none none none none none ∧ Same H H' ∧ CAt C H' o L us ∧ All2 (ClAt H') cs us ∧ H' vl = some (.lst vs) ∧ All2 (VAt H') (cv cs.length) vs ∧ Dn cs ∧ cs.length ≤ 30, ?_, ?_⟩
  · refine ⟨_, rfl, _, rfl, _, rfl, .inl ⟨sa, _, rfl, s1.seq hS, fun sl hsl => ?_⟩⟩
    obtain ⟨nc, hnc, hncl⟩ := cut838 ns
    rw [hnc]
    have e9 := same_new hsl (.lst (nc.map V.int))
    have nsl : sl ≠ vl ∧ sl ≠ L := ⟨(fun e => by subst e; rw [hv1] at hsl; cases hsl), fun e => by subst e; obtain ⟨_, _, z⟩ := hC1; rw [z] at hsl; cases hsl⟩
    refine ⟨sl, rfl, ⟨_, SqL.of upd_same⟩, for_list (xs := nc.map V.int) (fun i σ H' => ∃ a3 us vs cs, σ = stL sa o vl a3 none none none none none none none none none none none ∧ Same H H' ∧ CAt C H' o L us ∧ All2 (ClAt H') cs us ∧ H' vl = some (.lst vs) ∧ All2 (VAt H') (cv cs.length) vs ∧ Dn cs ∧ cs.length = i ∧ H' sl = some (.lst (nc.map V.int))) ?_ ?_ ?_ ?_⟩
    · exact ⟨none, [], [], [], rfl, s1.trans e9, hC1.same e9, .nil, e9 _ _ hv1, .nil, (fun k j c h => by cases h), rfl, upd_same⟩
    · rintro i σ H' _ ⟨a3, us, vs, cs, rfl, _, _, _, _, _, _, _, hsl'⟩
      exact SqL.of hsl'
    · rintro i x σ H' hx ⟨a3, us, vs, cs, rfl, s', hC', hU, hv', hV, hDn, rfl, hsl'⟩
      obtain ⟨n, _, ex⟩ := List.mem_map.mp (List.mem_of_getElem? hx)
      subst ex
      have hi : cs.length < 30 := by have := (List.getElem?_eq_some_iff.mp hx).1; rw [List.length_map] at this; omega
      have hlu := hU.len
      have hlv := hV.len
      rw [cv_len] at hlv
      obtain ⟨dx, hio, hlo⟩ := id hC'
      refine ⟨_, rfl, .inl ⟨rfl, _, SqL.of hv'⟩, _, rfl, o, dx, _, rfl, hio, rfl, _, rfl, _, rfl, n, vl, vs, cv cs.length, rfl, hv', hV, fun u c H2 s2 hcu hin => ?_⟩
      refine ⟨o, L, us, u, rfl, hC'.same s2, by omega, fun p H3 hp3 bt3 hC3 hp => ?_⟩
      have hv3 : H3 vl = some (.lst vs) := bt3 _ _ (s2 _ _ hv') hvL
      have m3 : Mo H2 H3 := bt3.tups (s2 _ _ hlo)
      refine ⟨vl, vs, _, rfl, rfl, hv3, by omega, ?_⟩
      have m4 : Mo H3 (upd H3 vl (.lst (vs ++ [.ref p]))) := fun b zs e => upd_at e (ne_of e hv3 (by intro z; cases z))
      have m24 : Mo H2 (upd H3 vl (.lst (vs ++ [.ref p]))) := fun b zs e => m4 _ _ (m3 _ _ e)
      refine ⟨_, us ++ [u], vs ++ [.ref p], cs ++ [c], rfl, free vl _ _ hvH (freeB L _ _ fL (s'.trans s2) bt3), hC3.bt (Bt.upd _) hv3 (Ne.symm hvL), ?_, upd_same, ?_, ?_, ?_, upd_at (bt3 _ _ (s2 _ _ hsl') nsl.2) nsl.1⟩
      · exact (hU.imp fun _ _ z => ClAt.mo m24 (ClAt.mo (tups_of s2) z)).app (.cons (hcu.mo m24) .nil)
      · rw [List.length_append]
        show All2 _ (cv (cs.length + 1)) _
        rw [cv_succ]
        refine (hV.imp fun _ _ z => VAt.mo m24 (VAt.mo (tups_of s2) z)).app (.cons ⟨p, rfl, ?_⟩ .nil)
        rw [hlu]
        exact m4 _ _ hp
      · intro k j c' hc hj
        by_cases hk : k < cs.length
        · rw [List.getElem?_append_left hk] at hc
          exact hDn k j c' hc hj
        · rw [List.getElem?_append_right (by omega)] at hc
          have hk2 := (List.getElem?_eq_some_iff.mp hc).1
          have hk0 : k - cs.length = 0 := by simp at hk2; omega
          rw [hk0] at hc
          cases hc
          have := cv_mem.mp (hin j hj)
          omega
      · rw [List.length_append]; rfl
    · rintro σ H' ⟨a3, us, vs, cs, rfl, s', hC', hU, hv', hV, hDn, hl, _⟩
      rw [List.length_map] at hl
      exact ⟨a3, us, vs, cs, rfl, s', hC', hU, hv', hV, hDn, by omega⟩
  rintro σ H2 ⟨a3, us, vs, cs, rfl, s2, hC2, hU2, hv2, hV2, hDn, hn30⟩
  have hO := hDn.okc
  have hlu := hU2.len
  have hlv := hV2.len
  rw [cv_len] at hlv
  refine ⟨(by show 0 ≤ sizeLine; decide), fun al hal => ?_⟩
  have e3 := same_new hal (.lst [])
  have halH : H al = none := s2.free hal
  have hna : al ≠ vl ∧ al ≠ L := ⟨(fun e => by subst e; rw [hv2] at hal; cases hal), fun e => by subst e; obtain ⟨_, _, z⟩ := hC2; rw [z] at hal; cases hal⟩
  refine ⟨fun σ H' => ∃ a5 xs ws, σ = stL sa o vl a3 (some (.ref al)) a5 none none none none none none none none none ∧ Same H2 H' ∧ H' al = some (.lst xs) ∧ All2 (VAt H') ws xs ∧ Okv cs.length ws ∧ xs.length ≤ 8, ?_, ?_⟩
  · refine ⟨_, rfl, sa, ns, 0, rfl, (s2.trans e3).seq hS, Int.le_refl _, fun c0 => ⟨_, _, rfl, rfl, (by decide : (0 : Int) < 8), ?_⟩⟩
    have g0 := Int.emod_nonneg c0 (by decide : (8 : Int) ≠ 0)
    have g1 := Int.emod_lt_of_pos c0 (by decide : (0 : Int) < 8)
    refine ⟨_, rfl, by omega, by omega, for_range (n := (c0 % 8).toNat) (fun i σ H' => ∃ a5 xs ws, σ = stL sa o vl a3 (some (.ref al)) a5 none none none none none none none none none ∧ Same H2 H' ∧ H' al = some (.lst xs) ∧ All2 (VAt H') ws xs ∧ Okv cs.length ws ∧ xs.length = i) ?_ ?_ ?_⟩
    · exact ⟨_, [], [], rfl, e3, upd_same, .nil, (fun j h => by cases h), rfl⟩
    · rintro i σ H' hi ⟨a5, xs, ws, rfl, s', hal', hX, hV, rfl⟩
      refine ⟨_, rfl, .inl ⟨rfl, _, SqL.of hal'⟩, _, rfl, _, rfl, .inl ⟨_, _, rfl, rfl, sa, ns, _, rfl, (s2.trans s').seq hS, by omega, fun c => ?_⟩⟩
      refine ⟨_, rfl, .inl ⟨_, _, rfl, rfl, .inl ⟨by decide, by decide⟩, .inl ⟨_, _, rfl, rfl, ?_⟩⟩⟩
      refine ⟨_, rfl, _, rfl, _, rfl, .inl ⟨al, xs, rfl, SqL.of hal', fun p1 hp1 => ?_⟩⟩
      have ecut : cutV xs none (some 1) = xs.take 1 := cut_to xs 1
      rw [ecut]
      have f1 := same_new hp1 (.lst (xs.take 1))
      refine .inr (.inr ⟨vl, p1, vs, _, rfl, rfl, f1 _ _ (s' _ _ hv2), upd_same, by rw [List.length_take]; omega, fun p2 hp2 => ?_⟩)
      have f2 := f1.trans (same_new hp2 (.lst (vs ++ xs.take 1)))
      refine ⟨_, p2, _, cv cs.length ++ ws.take 1, rfl, upd_same, ?_, fun x x' H3 s3 hx hxi => ?_⟩
      · exact (hV2.imp fun _ _ z => VAt.mo (tups_of (s'.trans f2)) z).app (all2_take (hX.imp fun _ _ z => VAt.mo (tups_of f2) z) 1)
      have f3 := f2.trans s3
      have hal3 := f3 _ _ hal'
      refine ⟨al, xs, _, rfl, rfl, hal3, by omega, ?_⟩
      have m4 : Mo H3 (upd H3 al (.lst (xs ++ [x]))) := fun b zs e => upd_at e (ne_of e hal3 (by intro z; cases z))
      refine ⟨_, xs ++ [x], ws ++ [x'], rfl, fun b u h => by rw [upd_ne (fun e => by subst e; rw [hal] at h; cases h)]; exact (s'.trans f3) _ _ h, upd_same, (hX.imp fun _ _ z => VAt.mo m4 (VAt.mo (tups_of f3) z)).app (.cons (hx.mo m4) .nil), fun j hj => ?_, by rw [List.length_append]; rfl⟩
      rcases mem_last hj with e | hj
      · rcases List.mem_append.mp (hxi j e.symm) with h | h
        · exact cv_mem.mp h
        · exact hV j (List.mem_of_mem_take h)
      · exact hV j hj
    · rintro σ H' ⟨a5, xs, ws, rfl, s', hal', hX, hV, hl⟩
      exact ⟨a5, xs, ws, rfl, s', hal', hX, hV, by omega⟩
  rintro σ H3 ⟨a5, xs, ws, rfl, s3, hal3, hX3, hV, hx8⟩
  have hC3 := hC2.same s3
  have hU3 := hU2.imp fun _ _ z => ClAt.mo (tups_of s3) z
  have hv3 := s3 _ _ hv2
  have hV3 := hV2.imp fun _ _ z => VAt.mo (tups_of s3) z
  clear hC2 hU2 hv2 hV2 e3 hal
  have s03 := s2.trans s3
  clear s2 s3
  obtain ⟨dx, hio3, hlo3⟩ := id hC3
  refine ⟨_, rfl, o, dx, _, rfl, hio3, rfl, o, L, us, rfl, hC3, fun cl hcl => ?_⟩
  have t1 := same_new hcl (.lst us)
  refine ⟨_, rfl, al, xs, rfl, .inl (SqL.of (t1 _ _ hal3)), fun hd hhd => ?_⟩
  have t2 := t1.trans (same_new hhd (.lst xs))
  have hcl4 := (same_new hhd (.lst xs)) _ _ (show upd H3 cl (.lst us) cl = some (.lst us) from upd_same)
  have hhd4 : upd (upd H3 cl (.lst us)) hd (.lst xs) hd = some (.lst xs) := upd_same
  generalize upd (upd H3 cl (.lst us)) hd (.lst xs) = H4 at t2 hcl4 hhd4 ⊢
  have hC4 := hC3.same t2
  have hio4 := t2 _ _ hio3
  have hlo4 := t2 _ _ hlo3
  have hal4 := t2 _ _ hal3
  have hv4 := t2 _ _ hv3
  have hU4 := hU3.imp fun _ _ z => ClAt.mo (tups_of t2) z
  have hX4 := hX3.imp fun _ _ z => VAt.mo (tups_of t2) z
  have hV4 := hV3.imp fun _ _ z => VAt.mo (tups_of t2) z
  clear hC3 hio3 hlo3 hal3 hv3 hU3 hX3 hV3
  refine ⟨_, rfl, _, rfl, o, L, hd, us, xs, cs, ws, rfl, hC4, hU4, hhd4, hX4, hO, hV, by omega, by omega, fun t o' L' l us' ys ks H5 s5 hK ht5 hC5 hU5 hl5 hY5 ho'4 hL'4 hl4 hlL => ?_⟩
  change All2 (ClAt H5) (fr cs ks) us' at hU5
  have hly := hY5.len
  have hlx := hX4.len
  have hlk := hU5.len
  rw [fr_len] at hlk
  rw [List.length_map] at hly
  have hkn : ks.length ≤ cs.length := nd_len _ _ hK.nd fun k hk => ((hK.is k).mp hk).lt hO hV
  refine ⟨fun σ H' => σ = stL sa o vl a3 (some (.ref al)) a5 (some (.ref cl)) (some (.ref hd)) (some (.ref t)) none none none none none none ∧ H5 = H', ?_, ?_⟩
  · refine ⟨_, rfl, _, _, _, _, rfl, .tup ht5, kit_tt, true, rfl, ifF Bool.false_ne_true ?_⟩
    refine ⟨_, rfl, _, _, rfl, .inr ⟨_, SqT.of ht5, rfl⟩, .inl ⟨rfl, _, rfl, ifF (by show ¬ (!decide (V.int (2 : Nat) = V.int 2)) = true; decide) ?_⟩⟩
    refine ⟨_, rfl, .inr (.inl ⟨t, _, 1, _, rfl, rfl, SqT.of ht5, rfl, _, _, _, _, rfl, .lst hl5, kit_ll, true, rfl, ifF Bool.false_ne_true ?_⟩)⟩
    refine ⟨_, rfl, .inr (.inl ⟨t, _, 1, _, rfl, rfl, SqT.of ht5, rfl, _, _, rfl, .inl ⟨_, SqL.of hl5, rfl⟩, _, rfl, _, _, rfl, .inl ⟨_, SqL.of (s5 _ _ hal4), rfl⟩, .inl ⟨rfl, _, rfl, ?_⟩⟩)⟩
    rw [show ys.length = xs.length by omega]
    exact ifF (by simp) ⟨rfl, rfl⟩
  rintro σ H' ⟨rfl, rfl⟩
  obtain ⟨dx', hio5, hlo5⟩ := id hC5
  refine ⟨_, rfl, .inr (.inl ⟨t, _, 0, _, rfl, rfl, SqT.of ht5, rfl, ?_⟩)⟩
  refine ⟨_, rfl, o', dx', _, rfl, hio5, rfl, o', L', us', rfl, hC5, ?_⟩
  have hG := alk_kept hK
  refine ⟨_, rfl, _, rfl, .inr (.inl ⟨t, _, 1, _, rfl, rfl, SqT.of ht5, rfl, _, rfl, _, rfl, o', dx', _, rfl, hio5, rfl, o', L', us', rfl, hC5, fun l2 hl2 => ?_⟩)⟩
  have g1 := same_new hl2 (.lst us')
  have m45 := tups_of s5
  have mg1 := tups_of g1
  refine ⟨al, l, cl, l2, xs, ys, us, us', cs, fr cs ks, ws, fun k => ks.idxOf k, rfl, g1 _ _ (s5 _ _ hal4), g1 _ _ hl5, g1 _ _ (s5 _ _ hcl4), upd_same, hX4.imp fun _ _ z => (VAt.mo m45 z).mo mg1, by rw [← mv_mp]; exact hY5.imp fun _ _ z => VAt.mo mg1 z, hU4.imp fun _ _ z => (ClAt.mo m45 z).mo mg1, hU5.imp fun _ _ z => ClAt.mo mg1 z, hO, hV, by omega, by omega, hG, fun d kvs F6 H6 s6 hd6 hdd hkl hF hFm => ?_⟩
  have s56 := g1.trans s6
  have hFk : F6.length = ks.length := nd_same hF hK.nd fun k => by rw [hFm k, hK.is k]
  have s46 := s5.trans s56
  refine ⟨fun σ H' => σ = stL sa o vl a3 (some (.ref al)) a5 (some (.ref cl)) (some (.ref hd)) (some (.ref t)) (some (.ref o')) (some (.int (us'.length : Nat))) (some (.ref d)) none none none ∧ Same H5 H', ?_, ?_⟩
  · refine ⟨_, rfl, rfl, _, rfl, ifF (by intro z; cases of_decide_eq_true z) ?_⟩
    refine ⟨_, rfl, _, rfl, _, rfl, cl, al, us, xs, cs, ws, rfl, s46 _ _ hcl4, s46 _ _ hal4, hU4.imp fun _ _ z => ClAt.mo (tups_of s46) z, hX4.imp fun _ _ z => VAt.mo (tups_of s46) z, hDn, hV, by omega, fun N H7 s7 hN => ?_⟩
    refine ⟨_, _, rfl, .inl ⟨rfl, by rw [hN ks hK.nd hK.is, hlk]⟩, fun H8 s8 => ⟨true, rfl, ifF Bool.false_ne_true ?_⟩⟩
    refine ⟨_, rfl, d, kvs, rfl, .inl (s8 _ _ (s7 _ _ hdd)), _, rfl, .inl ⟨rfl, _, rfl, ?_⟩⟩
    rw [show kvs.length = us'.length by omega]
    exact ifF (by simp) ⟨rfl, s56.trans (s7.trans s8)⟩
  clear hdd hkl hF hFm s56 s46 s6 hd6
  rintro σ H6 ⟨rfl, s6⟩
  refine ⟨_, rfl, o', dx', _, rfl, s6 _ _ hio5, rfl, three3, fun pp hpp => ?_⟩
  have gp := same_new hpp (.tup [.str "pair", .int 1, .non])
  refine ⟨o', L', us', .ref pp, rfl, (hC5.same s6).same gp, by omega, fun p7 H7 hp7 bt7 hC7 _ => ?_⟩
  have hLp := gp _ _ (s6 _ _ hlo5)
  have m67 : Mo H5 H7 := fun b zs e => bt7.tups hLp _ _ (gp _ _ (s6 _ _ e))
  have hpp7 : H7 pp = some (.tup [.str "pair", .int 1, .non]) := bt7.tups hLp _ _ upd_same
  have hl7 : H7 l = some (.lst ys) := bt7 _ _ (gp _ _ (s6 _ _ hl5)) hlL
  refine ⟨_, rfl, .inr (.inl ⟨t, _, 1, _, rfl, rfl, SqT.of (m67 _ _ ht5), rfl, .inl ⟨rfl, _, SqL.of hl7⟩, l, ys, _, rfl, rfl, hl7, by omega, ?_⟩)⟩
  have m78 : Mo H7 (upd H7 l (.lst (ys ++ [.int 7]))) := fun b zs e => upd_at e (ne_of e hl7 (by intro z; cases z))
  have m58 : Mo H5 (upd H7 l (.lst (ys ++ [.int 7]))) := fun b zs e => m78 _ _ (m67 _ _ e)
  have s48 : Same H4 (upd H7 l (.lst (ys ++ [.int 7]))) := fun b u h => by
    rw [upd_ne (fun e => by subst e; rw [h] at hl4; cases hl4)]
    exact bt7 _ _ (gp _ _ (s6 _ _ (s5 _ _ h))) (fun e => by subst e; rw [h] at hL'4; cases hL'4)
  have hl8 : upd H7 l (.lst (ys ++ [.int 7])) l = some (.lst (ys ++ [.int 7])) := upd_same
  have hC8 : CAt C (upd H7 l (.lst (ys ++ [.int 7]))) o' L' (us' ++ [.ref pp]) := hC7.bt (Bt.upd _) hl7 (Ne.symm hlL)
  have hU8 : All2 (ClAt (upd H7 l (.lst (ys ++ [.int 7])))) (fr cs ks ++ [.pair (.sc (.int 1)) (.sc .non)]) (us' ++ [.ref pp]) := (hU5.imp fun _ _ z => ClAt.mo m58 z).app (.cons ⟨pp, _, _, rfl, m78 _ _ hpp7, ⟨rfl, rfl⟩, ⟨rfl, rfl⟩⟩ .nil)
  have hY8 : All2 (VAt (upd H7 l (.lst (ys ++ [.int 7])))) (ws.map (mv ks)) ys := hY5.imp fun _ _ z => VAt.mo m58 z
  have ht8 := m58 _ _ ht5
  show tSeq _ _ _ _ (upd H7 l (.lst (ys ++ [.int 7])))
  generalize upd H7 l (.lst (ys ++ [.int 7])) = H8 at s48 hl8 hC8 hU8 hY8 ht8 ⊢
  clear m58 m78 m67 hpp7 hl7 hLp bt7 hC7
  refine ⟨_, rfl, .inr (.inl ⟨t, _, 1, _, rfl, rfl, SqT.of ht8, rfl, l, _, rfl, .inl (SqL.of hl8), fun kp hkp => ?_⟩)⟩
  have gk := same_new hkp (.lst (ys ++ [.int 7]))
  have hk9 : upd H8 kp (.lst (ys ++ [.int 7])) kp = some (.lst (ys ++ [.int 7])) := upd_same
  generalize upd H8 kp (.lst (ys ++ [.int 7])) = H9 at gk hk9 ⊢
  have s49 := s48.trans gk
  refine ⟨fun σ H' => σ = stL sa o vl a3 (some (.ref al)) a5 (some (.ref cl)) (some (.ref hd)) (some (.ref t)) (some (.ref o')) (some (.int (us'.length : Nat))) (some (.ref d)) (some (.ref kp)) none none ∧ Same H9 H', ?_, ?_⟩
  · refine ⟨_, rfl, o, dx, _, rfl, s49 _ _ hio4, rfl, o, L, us, rfl, hC4.same s49, fun l3 hl3 => ?_⟩
    have g3 := same_new hl3 (.lst us)
    refine ⟨_, rfl, l3, cl, us, us, 0, rfl, rfl, SqL.of upd_same, SqL.of (g3 _ _ (s49 _ _ hcl4)), rfl, by decide, dqs (plAllC hU4), _, rfl, ifF Bool.false_ne_true ?_⟩
    exact ⟨_, rfl, _, rfl, hd, al, xs, xs, 0, rfl, rfl, SqL.of (g3 _ _ (s49 _ _ hhd4)), SqL.of (g3 _ _ (s49 _ _ hal4)), rfl, by decide, dqs (plAll hX4), _, rfl, ifF Bool.false_ne_true ⟨rfl, g3⟩⟩
  rintro σ H10 ⟨rfl, sA9⟩
  have s4a := s49.trans sA9
  have s8a := gk.trans sA9
  refine ⟨_, rfl, _, rfl, _, rfl, .inl ⟨vl, vs, rfl, SqL.of (s4a _ _ hv4), fun v2 hv2 => ?_⟩⟩
  have ecut : cutV vs none (some 2) = vs.take 2 := cut_to vs 2
  rw [ecut]
  have gv := same_new hv2 (.lst (vs.take 2))
  have s4b := s4a.trans gv
  have hok2 : Okv cs.length ((cv cs.length).take 2) := fun j hj => cv_mem.mp (List.mem_of_mem_take hj)
  refine ⟨o, L, v2, us, vs.take 2, cs, (cv cs.length).take 2, rfl, hC4.same s4b, hU4.imp fun _ _ z => ClAt.mo (tups_of s4b) z, upd_same, all2_take (hV4.imp fun _ _ z => VAt.mo (tups_of s4b) z) 2, hO, hok2, by omega, by rw [List.length_take]; omega, fun _ _ _ _ _ _ _ H11 s11 _ _ _ _ _ _ _ _ _ _ => ?_⟩
  have s4c := s4b.trans s11
  have s8c := s8a.trans (gv.trans s11)
  refine ⟨_, rfl, _, rfl, o, L, hd, us, xs, cs, ws, rfl, hC4.same s4c, hU4.imp fun _ _ z => ClAt.mo (tups_of s4c) z, s4c _ _ hhd4, hX4.imp fun _ _ z => VAt.mo (tups_of s4c) z, hO, hV, by omega, by omega, fun tb ob Lb lb ub yb kb H12 s12 hKb htb hCb hUb hlb hYb _ _ _ _ => ?_⟩
  change All2 (ClAt H12) (fr cs kb) ub at hUb
  obtain ⟨dxb, hiob, hlob⟩ := id hCb
  have s4d := s4c.trans s12
  have s8d := s8c.trans s12
  refine ⟨_, rfl, _, rfl, .inr (.inl ⟨tb, _, 1, _, rfl, rfl, SqT.of htb, rfl, _, rfl, _, rfl, .inr (.inl ⟨tb, _, 0, _, rfl, rfl, SqT.of htb, rfl, ob, dxb, _, rfl, hiob, rfl, ob, Lb, ub, rfl, hCb, fun l4 hl4' => ?_⟩)⟩)⟩
  have g4 := same_new hl4' (.lst ub)
  have s4e := s4d.trans g4
  have mg4 := tups_of g4
  refine ⟨al, lb, cl, l4, xs, yb, us, ub, cs, fr cs kb, ws, fun k => kb.idxOf k, rfl, s4e _ _ hal4, g4 _ _ hlb, s4e _ _ hcl4, upd_same, hX4.imp fun _ _ z => VAt.mo (tups_of s4e) z, by rw [← mv_mp]; exact hYb.imp fun _ _ z => VAt.mo mg4 z, hU4.imp fun _ _ z => ClAt.mo (tups_of s4e) z, hUb.imp fun _ _ z => ClAt.mo mg4 z, hO, hV, by omega, by omega, alk_kept hKb, fun db kvb Fb H13 s13 _ _ _ _ _ => ?_⟩
  refine ⟨rfl, _, rfl, ifF (by intro z; cases of_decide_eq_true z) ?_⟩
  have s4f := s4e.trans s13
  have s8f := s8d.trans (g4.trans s13)
  refine ⟨_, rfl, _, rfl, .inr (.inl ⟨t, _, 1, _, rfl, rfl, SqT.of (s8f _ _ ht8), rfl, 1, rfl, _, rfl, .inl ⟨l, _, rfl, SqL.of (s8f _ _ hl8), fun l5 hl5' => ?_⟩⟩)⟩
  have ecl : cutV (ys ++ [.int 7]) none (some (-1)) = ys := cut_last
  rw [ecl]
  have g5 := same_new hl5' (.lst ys)
  have s8g := s8f.trans g5
  have hce : ∀ c ∈ [Cl.pair (.sc (.int 1)) (.sc .non)], ∀ j, Vl.cell j ∉ vin c := fun c hc j hj => by
    rw [List.mem_singleton.mp hc] at hj
    rcases List.mem_cons.mp hj with e | hj
    · cases e
    · cases List.mem_singleton.mp hj
  have hl2n : (fr cs ks ++ [Cl.pair (.sc (.int 1)) (.sc .non)]).length ≤ 63 := by rw [List.length_append, fr_len]; show ks.length + 1 ≤ 63; omega
  refine ⟨o', L', l5, us' ++ [.ref pp], ys, _, ws.map (mv ks), rfl, hC8.same s8g, hU8.imp fun _ _ z => ClAt.mo (tups_of s8g) z, upd_same, hY8.imp fun _ _ z => VAt.mo (tups_of s8g) z, okc_fr hO hV hK hce, okv_fr hK, hl2n, by omega, fun tc oc Lc lc uc yc kc H14 s14 hKc htc hCc hUc hlc hYc _ _ _ _ => ?_⟩
  change All2 (ClAt H14) (fr (fr cs ks ++ [Cl.pair (.sc (.int 1)) (.sc .non)]) kc) uc at hUc
  obtain ⟨dxc, hioc, hloc⟩ := id hCc
  have hlc2 := len2 hO hV hK hKc
  have hluc := hUc.len
  rw [fr_len] at hluc
  have s4h := s4f.trans (g5.trans s14)
  have s8h := s8g.trans s14
  have s9h := sA9.trans (gv.trans (s11.trans (s12.trans (g4.trans (s13.trans (g5.trans s14))))))
  refine ⟨fun σ H' => σ = stL sa o vl a3 (some (.ref al)) a5 (some (.ref cl)) (some (.ref hd)) (some (.ref t)) (some (.ref o')) (some (.int (us'.length : Nat))) (some (.ref d)) (some (.ref kp)) (some (.ref tb)) (some (.ref tc)) ∧ H14 = H', ?_, ?_⟩
  · refine ⟨_, rfl, .inr (.inl ⟨t, _, 1, _, rfl, rfl, SqT.of (s8h _ _ ht8), rfl, _, rfl, l, kp, _, _, 0, rfl, rfl, SqL.of (s8h _ _ hl8), SqL.of (s9h _ _ hk9), rfl, by decide, dqs ?_, _, rfl, ifF Bool.false_ne_true ?_⟩)⟩
    · intro x hx
      rcases List.mem_append.mp hx with h | h
      · exact plAll hY8 x h
      · rw [List.mem_singleton.mp h]; rfl
    refine ⟨_, rfl, .inr (.inl ⟨tc, _, 0, _, rfl, rfl, SqT.of htc, rfl, oc, dxc, _, rfl, hioc, rfl, oc, Lc, uc, rfl, hCc, _, rfl, .inl ⟨rfl, _, rfl, ?_⟩⟩)⟩
    rw [show uc.length = us'.length by omega]
    exact ifF (by simp) ⟨rfl, rfl⟩
  rintro σ H' ⟨rfl, rfl⟩
  refine ⟨_, rfl, _, rfl, .inr (.inl ⟨tc, _, 1, _, rfl, rfl, SqT.of htc, rfl, _, rfl, _, rfl, .inr (.inl ⟨tc, _, 0, _, rfl, rfl, SqT.of htc, rfl, oc, dxc, _, rfl, hioc, rfl, oc, Lc, uc, rfl, hCc, fun l6 hl6 => ?_⟩)⟩)⟩
  have g6 := same_new hl6 (.lst uc)
  have s4i := s4h.trans g6
  have mg6 := tups_of g6
  refine ⟨al, lc, cl, l6, xs, yc, us, uc, cs, _, ws, fun k => kc.idxOf (ks.idxOf k), rfl, s4i _ _ hal4, g6 _ _ hlc, s4i _ _ hcl4, upd_same, hX4.imp fun _ _ z => VAt.mo (tups_of s4i) z, by rw [← mv_mv]; exact hYc.imp fun _ _ z => VAt.mo mg6 z, hU4.imp fun _ _ z => ClAt.mo (tups_of s4i) z, hUc.imp fun _ _ z => ClAt.mo mg6 z, hO, hV, by omega, by omega, alk2 hO hV hK hKc, fun dd kvd Fd H15 s15 _ _ _ _ _ => ⟨rfl, ?_⟩⟩
  exact q _
end
end SW
set_option maxHeartbeats 4000000
namespace SW
open PySem L2 BV CL
def pick {α : Type} (l : List (Str × α)) (d : α) (x : Str) : α := (l.lookup x).getD d
theorem pick_ok {α : Type} (d : α) : ∀ (l : List (Str × α)) (i : Nat) (x : Str) (v : α), l[i]? = some (x, v) → (l.map (·.1)).Nodup → pick l d x = v
  | [], i, x, v, h, _ => by cases h
  | (y, u) :: r, 0, x, v, h, _ => by
    cases h
    unfold pick
    rw [List.lookup_cons_self]
    rfl
  | (y, u) :: r, i + 1, x, v, h, hn => by
    have h' : r[i]? = some (x, v) := h
    rw [List.map_cons, List.nodup_cons] at hn
    have hm : x ∈ r.map (·.1) := List.mem_map.mpr ⟨(x, v), List.mem_of_getElem? h', rfl⟩
    have hne : x ≠ y := fun e => hn.1 (e ▸ hm)
    have ih := pick_ok d r i x v h' hn.2
    unfold pick at ih ⊢
    rw [List.lookup_cons, show (x == y) = false from beq_false_of_ne hne]
    exact ih
theorem meths_nodup : (["put", "at", "many", "told"] : List Str).Nodup := by decide +kernel
theorem mfmd (f0 f1 f2 f3 : Addr) (d0 d1 d2 d3 : FuncData) : ∃ (mf : Str → Addr) (md : Str → FuncData), mf "put" = f0 ∧ mf "at" = f1 ∧ mf "many" = f2 ∧ mf "told" = f3 ∧ md "put" = d0 ∧ md "at" = d1 ∧ md "many" = d2 ∧ md "told" = d3 :=
  ⟨pick [("put", f0), ("at", f1), ("many", f2), ("told", f3)] f0, pick [("put", d0), ("at", d1), ("many", d2), ("told", d3)] d0, pick_ok _ _ 0 _ _ rfl meths_nodup, pick_ok _ _ 1 _ _ rfl meths_nodup, pick_ok _ _ 2 _ _ rfl meths_nodup, pick_ok _ _ 3 _ _ rfl meths_nodup, pick_ok _ _ 0 _ _ rfl meths_nodup, pick_ok _ _ 1 _ _ rfl meths_nodup, pick_ok _ _ 2 _ _ rfl meths_nodup, pick_ok _ _ 3 _ _ rfl meths_nodup⟩
theorem all_mk {l : PySem.W.OpenLaw} {w : World} {K : PySem.W.Frag} {h : Heap} {mg : Str → Option Value} {fa : Addr} (X : K.In h) (G : h.Ns mainGlobals mg) (hfa : mg "law" = some (.ref fa))
    {f0 f1 f2 f3 f4 f5 f6 f7 f8 f9 f10 f11 f12 f13 f14 f15 f16 : Addr} {od0 an0 od1 an1 od2 an2 od3 an3 od4 an4 od5 an5 od6 an6 od7 an7 od8 an8 od9 an9 od10 an10 od11 an11 od12 an12 od13 an13 od14 an14 od15 an15 od16 an16 : Option Addr} {sl0 sl1 sl2 sl3 sl4 sl5 sl6 sl7 sl8 sl9 sl10 sl11 sl12 sl13 sl14 sl15 sl16 : Array (Option Value)} {oc0 kV0 dc0 pm0 cd0 ct0 oc1 kV1 dc1 pm1 cd1 ct1 oc2 kV2 dc2 pm2 cd2 ct2 oc3 kV3 dc3 pm3 cd3 ct3 oc4 kV4 dc4 pm4 cd4 ct4 oc5 kV5 dc5 pm5 cd5 ct5 oc6 kV6 dc6 pm6 cd6 ct6 oc7 kV7 dc7 pm7 cd7 ct7 oc8 kV8 dc8 pm8 cd8 ct8 oc9 kV9 dc9 pm9 cd9 ct9 oc10 kV10 dc10 pm10 cd10 ct10 oc11 kV11 dc11 pm11 cd11 ct11 oc12 kV12 dc12 pm12 cd12 ct12 oc13 kV13 dc13 pm13 cd13 ct13 oc14 kV14 dc14 pm14 cd14 ct14 oc15 kV15 dc15 pm15 cd15 ct15 oc16 kV16 dc16 pm16 cd16 ct16 : Value}
    {C : Addr} {fM0 fM1 fM2 fM3 fI : Addr} {odM0 anM0 odM1 anM1 odM2 anM2 odM3 anM3 odI anI : Option Addr} {slM0 slM1 slM2 slM3 slI : Array (Option Value)} {ocM0 kVM0 dcM0 pmM0 cdM0 ctM0 ocM1 kVM1 dcM1 pmM1 cdM1 ctM1 ocM2 kVM2 dcM2 pmM2 cdM2 ctM2 ocM3 kVM3 dcM3 pmM3 cdM3 ctM3 ocI kVI dcI pmI cdI ctI : Value}
    (a0 : PySem.W.nsIn K mainGlobals "is_cell" = some (some (.ref f0))) (l0 : K.lookup f0 = some ⟨oc0, od0, .func (PySem.W.fnOf "is_cell" "is_cell" (defArgs s_is_cell) (defBody s_is_cell) (defScope s_is_cell) .none kV0 dc0 pm0 an0 cd0 ct0), sl0⟩) (c0 : PySem.W.codeIn K cd0 "is_cell" = true) (k0 : PySem.W.keepIn K (.ref f0) = true)
    (a1 : PySem.W.nsIn K mainGlobals "values_in" = some (some (.ref f1))) (l1 : K.lookup f1 = some ⟨oc1, od1, .func (PySem.W.fnOf "values_in" "values_in" (defArgs s_values_in) (defBody s_values_in) (defScope s_values_in) .none kV1 dc1 pm1 an1 cd1 ct1), sl1⟩) (c1 : PySem.W.codeIn K cd1 "values_in" = true) (k1 : PySem.W.keepIn K (.ref f1) = true)
    (a2 : PySem.W.nsIn K mainGlobals "moved" = some (some (.ref f2))) (l2 : K.lookup f2 = some ⟨oc2, od2, .func (PySem.W.fnOf "moved" "moved" (defArgs s_moved) (defBody s_moved) (defScope s_moved) .none kV2 dc2 pm2 an2 cd2 ct2), sl2⟩) (c2 : PySem.W.codeIn K cd2 "moved" = true) (k2 : PySem.W.keepIn K (.ref f2) = true)
    (a3 : PySem.W.nsIn K mainGlobals "moved_cell" = some (some (.ref f3))) (l3 : K.lookup f3 = some ⟨oc3, od3, .func (PySem.W.fnOf "moved_cell" "moved_cell" (defArgs s_moved_cell) (defBody s_moved_cell) (defScope s_moved_cell) .none kV3 dc3 pm3 an3 cd3 ct3), sl3⟩) (c3 : PySem.W.codeIn K cd3 "moved_cell" = true) (k3 : PySem.W.keepIn K (.ref f3) = true)
    (a4 : PySem.W.nsIn K mainGlobals "numbers_led_to" = some (some (.ref f4))) (l4 : K.lookup f4 = some ⟨oc4, od4, .func (PySem.W.fnOf "numbers_led_to" "numbers_led_to" (defArgs s_numbers_led_to) (defBody s_numbers_led_to) (defScope s_numbers_led_to) .none kV4 dc4 pm4 an4 cd4 ct4), sl4⟩) (c4 : PySem.W.codeIn K cd4 "numbers_led_to" = true) (k4 : PySem.W.keepIn K (.ref f4) = true)
    (a5 : PySem.W.nsIn K mainGlobals "swept" = some (some (.ref f5))) (l5 : K.lookup f5 = some ⟨oc5, od5, .func (PySem.W.fnOf "swept" "swept" (defArgs s_swept) (defBody s_swept) (defScope s_swept) .none kV5 dc5 pm5 an5 cd5 ct5), sl5⟩) (c5 : PySem.W.codeIn K cd5 "swept" = true) (k5 : PySem.W.keepIn K (.ref f5) = true)
    (a6 : PySem.W.nsIn K mainGlobals "_law_cell_at" = some (some (.ref f6))) (l6 : K.lookup f6 = some ⟨oc6, od6, .func (PySem.W.fnOf "_law_cell_at" "_law_cell_at" (defArgs s_law_cell_at) (defBody s_law_cell_at) (defScope s_law_cell_at) .none kV6 dc6 pm6 an6 cd6 ct6), sl6⟩) (c6 : PySem.W.codeIn K cd6 "_law_cell_at" = true) (k6 : PySem.W.keepIn K (.ref f6) = true)
    (a7 : PySem.W.nsIn K mainGlobals "_law_same" = some (some (.ref f7))) (l7 : K.lookup f7 = some ⟨oc7, od7, .func (PySem.W.fnOf "_law_same" "_law_same" (defArgs s_law_same) (defBody s_law_same) (defScope s_law_same) .none kV7 dc7 pm7 an7 cd7 ct7), sl7⟩) (c7 : PySem.W.codeIn K cd7 "_law_same" = true) (k7 : PySem.W.keepIn K (.ref f7) = true)
    (a8 : PySem.W.nsIn K mainGlobals "_law_number" = some (some (.ref f8))) (l8 : K.lookup f8 = some ⟨oc8, od8, .func (PySem.W.fnOf "_law_number" "_law_number" (defArgs s_law_number) (defBody s_law_number) (defScope s_law_number) .none kV8 dc8 pm8 an8 cd8 ct8), sl8⟩) (c8 : PySem.W.codeIn K cd8 "_law_number" = true) (k8 : PySem.W.keepIn K (.ref f8) = true)
    (a9 : PySem.W.nsIn K mainGlobals "_law_drawn" = some (some (.ref f9))) (l9 : K.lookup f9 = some ⟨oc9, od9, .func (PySem.W.fnOf "_law_drawn" "_law_drawn" (defArgs s_law_drawn) (defBody s_law_drawn) (defScope s_law_drawn) .none kV9 dc9 pm9 an9 cd9 ct9), sl9⟩) (c9 : PySem.W.codeIn K cd9 "_law_drawn" = true) (k9 : PySem.W.keepIn K (.ref f9) = true)
    (a10 : PySem.W.nsIn K mainGlobals "_law_made" = some (some (.ref f10))) (l10 : K.lookup f10 = some ⟨oc10, od10, .func (PySem.W.fnOf "_law_made" "_law_made" (defArgs s_law_made) (defBody s_law_made) (defScope s_law_made) .none kV10 dc10 pm10 an10 cd10 ct10), sl10⟩) (c10 : PySem.W.codeIn K cd10 "_law_made" = true) (k10 : PySem.W.keepIn K (.ref f10) = true)
    (a11 : PySem.W.nsIn K mainGlobals "_law_parts" = some (some (.ref f11))) (l11 : K.lookup f11 = some ⟨oc11, od11, .func (PySem.W.fnOf "_law_parts" "_law_parts" (defArgs s_law_parts) (defBody s_law_parts) (defScope s_law_parts) .none kV11 dc11 pm11 an11 cd11 ct11), sl11⟩) (c11 : PySem.W.codeIn K cd11 "_law_parts" = true) (k11 : PySem.W.keepIn K (.ref f11) = true)
    (a12 : PySem.W.nsIn K mainGlobals "_law_sort_alike" = some (some (.ref f12))) (l12 : K.lookup f12 = some ⟨oc12, od12, .func (PySem.W.fnOf "_law_sort_alike" "_law_sort_alike" (defArgs s_law_sort_alike) (defBody s_law_sort_alike) (defScope s_law_sort_alike) .none kV12 dc12 pm12 an12 cd12 ct12), sl12⟩) (c12 : PySem.W.codeIn K cd12 "_law_sort_alike" = true) (k12 : PySem.W.keepIn K (.ref f12) = true)
    (a13 : PySem.W.nsIn K mainGlobals "_law_place" = some (some (.ref f13))) (l13 : K.lookup f13 = some ⟨oc13, od13, .func (PySem.W.fnOf "_law_place" "_law_place" (defArgs s_law_place) (defBody s_law_place) (defScope s_law_place) .none kV13 dc13 pm13 an13 cd13 ct13), sl13⟩) (c13 : PySem.W.codeIn K cd13 "_law_place" = true) (k13 : PySem.W.keepIn K (.ref f13) = true)
    (a14 : PySem.W.nsIn K mainGlobals "_law_alike" = some (some (.ref f14))) (l14 : K.lookup f14 = some ⟨oc14, od14, .func (PySem.W.fnOf "_law_alike" "_law_alike" (defArgs s_law_alike) (defBody s_law_alike) (defScope s_law_alike) .none kV14 dc14 pm14 an14 cd14 ct14), sl14⟩) (c14 : PySem.W.codeIn K cd14 "_law_alike" = true) (k14 : PySem.W.keepIn K (.ref f14) = true)
    (a15 : PySem.W.nsIn K mainGlobals "_law_come_to" = some (some (.ref f15))) (l15 : K.lookup f15 = some ⟨oc15, od15, .func (PySem.W.fnOf "_law_come_to" "_law_come_to" (defArgs s_law_come_to) (defBody s_law_come_to) (defScope s_law_come_to) .none kV15 dc15 pm15 an15 cd15 ct15), sl15⟩) (c15 : PySem.W.codeIn K cd15 "_law_come_to" = true) (k15 : PySem.W.keepIn K (.ref f15) = true)
    (a16 : PySem.W.nsIn K mainGlobals "law" = some (some (.ref f16))) (l16 : K.lookup f16 = some ⟨oc16, od16, .func (PySem.W.fnOf "law" "law" (defArgs s_law) (defBody s_law) (defScope s_law) .none kV16 dc16 pm16 an16 cd16 ct16), sl16⟩) (c16 : PySem.W.codeIn K cd16 "law" = true) (k16 : PySem.W.keepIn K (.ref f16) = true)
    (aC : PySem.W.nsIn K mainGlobals "Cells" = some (some (.ref C)))
    (aM0 : PySem.W.findIn K (.ref C) "put" = some (some (.ref fM0))) (lM0 : K.lookup fM0 = some ⟨ocM0, odM0, .func (PySem.W.fnOf "put" "Cells.put" (defArgs s_put) (defBody s_put) (defScope s_put) .none kVM0 dcM0 pmM0 anM0 cdM0 ctM0), slM0⟩) (cM0 : PySem.W.codeIn K cdM0 "Cells.put" = true) (kM0 : PySem.W.keepIn K (.ref fM0) = true) (jM0 : PySem.W.isFn K (.ref fM0) = true)
    (aM1 : PySem.W.findIn K (.ref C) "at" = some (some (.ref fM1))) (lM1 : K.lookup fM1 = some ⟨ocM1, odM1, .func (PySem.W.fnOf "at" "Cells.at" (defArgs s_at) (defBody s_at) (defScope s_at) .none kVM1 dcM1 pmM1 anM1 cdM1 ctM1), slM1⟩) (cM1 : PySem.W.codeIn K cdM1 "Cells.at" = true) (kM1 : PySem.W.keepIn K (.ref fM1) = true) (jM1 : PySem.W.isFn K (.ref fM1) = true)
    (aM2 : PySem.W.findIn K (.ref C) "many" = some (some (.ref fM2))) (lM2 : K.lookup fM2 = some ⟨ocM2, odM2, .func (PySem.W.fnOf "many" "Cells.many" (defArgs s_many) (defBody s_many) (defScope s_many) .none kVM2 dcM2 pmM2 anM2 cdM2 ctM2), slM2⟩) (cM2 : PySem.W.codeIn K cdM2 "Cells.many" = true) (kM2 : PySem.W.keepIn K (.ref fM2) = true) (jM2 : PySem.W.isFn K (.ref fM2) = true)
    (aM3 : PySem.W.findIn K (.ref C) "told" = some (some (.ref fM3))) (lM3 : K.lookup fM3 = some ⟨ocM3, odM3, .func (PySem.W.fnOf "told" "Cells.told" (defArgs s_told) (defBody s_told) (defScope s_told) .none kVM3 dcM3 pmM3 anM3 cdM3 ctM3), slM3⟩) (cM3 : PySem.W.codeIn K cdM3 "Cells.told" = true) (kM3 : PySem.W.keepIn K (.ref fM3) = true) (jM3 : PySem.W.isFn K (.ref fM3) = true)
    (aI : PySem.W.findIn K (.ref C) "__init__" = some (some (.ref fI))) (lI : K.lookup fI = some ⟨ocI, odI, .func (PySem.W.fnOf "__init__" "Cells.__init__" (defArgs s_init) (defBody s_init) (defScope s_init) .none kVI dcI pmI anI cdI ctI), slI⟩) (cI : PySem.W.codeIn K cdI "Cells.__init__" = true) (kI : PySem.W.keepIn K (.ref fI) = true) (jI : PySem.W.isFn K (.ref fI) = true)
    (pg : PySem.W.plainGet K C Str.empty = true) (hd : PySem.W.hasDictIn K C = true) (po : PySem.W.plainOver K C = true) (sa : PySem.W.findIn K (.ref C) "__setattr__" = some (some (.builtin "object.__setattr__"))) (mk : PySem.W.makesIn K C = true) (kc : PySem.W.keepIn K (.ref C) = true) (ni : PySem.W.findIn K (.ref C) "in_order" = some none)
    (z_len : PySem.W.nsIn K mainGlobals "len" = some none)
    (z_list : PySem.W.nsIn K mainGlobals "list" = some none)
    (z_range : PySem.W.nsIn K mainGlobals "range" = some none)
    (z_isinstance : PySem.W.nsIn K mainGlobals "isinstance" = some none)
    (z_str : PySem.W.nsIn K mainGlobals "str" = some none)
    (z_tuple : PySem.W.nsIn K mainGlobals "tuple" = some none)
    (z_int : PySem.W.nsIn K mainGlobals "int" = some none)
    (z_bool : PySem.W.nsIn K mainGlobals "bool" = some none)
    (z_all : PySem.W.nsIn K mainGlobals "all" = some none)
    (z_sorted : PySem.W.nsIn K mainGlobals "sorted" = some none) :
    ∃ fd : FuncData, (∀ (s : Shared) (v : Value), BindsTo s fd ⟨[v], []⟩ [("_law_script", v)]) ∧ ∀ base : Heap, K.In base → base.Ns mainGlobals mg → FnOk l.prog w K mg base CX0 5 fa fd ["_law_script"] (spLaw K) := by
  have e := hfa.symm.trans (PySem.W.mg_of X G a16)
  cases e
  have B : CL.NoG mg := ⟨PySem.W.mg_none_of X G z_len, PySem.W.mg_none_of X G z_list, PySem.W.mg_none_of X G z_range, PySem.W.mg_none_of X G z_isinstance, PySem.W.mg_none_of X G z_str, PySem.W.mg_none_of X G z_tuple, PySem.W.mg_none_of X G z_int, PySem.W.mg_none_of X G z_bool, PySem.W.mg_none_of X G z_all⟩
  have B2 : SW.NoG2 mg := ⟨PySem.W.mg_none_of X G z_sorted⟩
  have F0 := fun_mk (st := s_is_cell) l0 c0 k0
  have b0 := F0.binds (ps := ["value"]) fun _ _ _ _ _ _ us hl => match us, hl with | [_], _ => rfl
  have m0 := PySem.W.mg_of X G a0
  have F1 := fun_mk (st := s_values_in) l1 c1 k1
  have b1 := F1.binds (ps := ["cell"]) fun _ _ _ _ _ _ us hl => match us, hl with | [_], _ => rfl
  have m1 := PySem.W.mg_of X G a1
  have F2 := fun_mk (st := s_moved) l2 c2 k2
  have b2 := F2.binds (ps := ["values", "new_numbers"]) fun _ _ _ _ _ _ us hl => match us, hl with | [_, _], _ => rfl
  have m2 := PySem.W.mg_of X G a2
  have F3 := fun_mk (st := s_moved_cell) l3 c3 k3
  have b3 := F3.binds (ps := ["cell", "new_numbers"]) fun _ _ _ _ _ _ us hl => match us, hl with | [_, _], _ => rfl
  have m3 := PySem.W.mg_of X G a3
  have F4 := fun_mk (st := s_numbers_led_to) l4 c4 k4
  have b4 := F4.binds (ps := ["cells", "values"]) fun _ _ _ _ _ _ us hl => match us, hl with | [_, _], _ => rfl
  have m4 := PySem.W.mg_of X G a4
  have F5 := fun_mk (st := s_swept) l5 c5 k5
  have b5 := F5.binds (ps := ["cells", "values"]) fun _ _ _ _ _ _ us hl => match us, hl with | [_, _], _ => rfl
  have m5 := PySem.W.mg_of X G a5
  have F6 := fun_mk (st := s_law_cell_at) l6 c6 k6
  have b6 := F6.binds (ps := ["_law_script", "_law_k"]) fun _ _ _ _ _ _ us hl => match us, hl with | [_, _], _ => rfl
  have m6 := PySem.W.mg_of X G a6
  have F7 := fun_mk (st := s_law_same) l7 c7 k7
  have b7 := F7.binds (ps := ["_law_found", "_law_due"]) fun _ _ _ _ _ _ us hl => match us, hl with | [_, _], _ => rfl
  have m7 := PySem.W.mg_of X G a7
  have F8 := fun_mk (st := s_law_number) l8 c8 k8
  have b8 := F8.binds (ps := ["_law_cell"]) fun _ _ _ _ _ _ us hl => match us, hl with | [_], _ => rfl
  have m8 := PySem.W.mg_of X G a8
  have F9 := fun_mk (st := s_law_drawn) l9 c9 k9
  have b9 := F9.binds (ps := ["_law_cell", "_law_values"]) fun _ _ _ _ _ _ us hl => match us, hl with | [_, _], _ => rfl
  have m9 := PySem.W.mg_of X G a9
  have F10 := fun_mk (st := s_law_made) l10 c10 k10
  have b10 := F10.binds (ps := ["_law_cell", "_law_values"]) fun _ _ _ _ _ _ us hl => match us, hl with | [_, _], _ => rfl
  have m10 := PySem.W.mg_of X G a10
  have F11 := fun_mk (st := s_law_parts) l11 c11 k11
  have b11 := F11.binds (ps := ["_law_cell"]) fun _ _ _ _ _ _ us hl => match us, hl with | [_], _ => rfl
  have m11 := PySem.W.mg_of X G a11
  have F12 := fun_mk (st := s_law_sort_alike) l12 c12 k12
  have b12 := F12.binds (ps := ["_law_one", "_law_other"]) fun _ _ _ _ _ _ us hl => match us, hl with | [_, _], _ => rfl
  have m12 := PySem.W.mg_of X G a12
  have F13 := fun_mk (st := s_law_place) l13 c13 k13
  have b13 := F13.binds (ps := ["_law_value", "_law_many"]) fun _ _ _ _ _ _ us hl => match us, hl with | [_, _], _ => rfl
  have m13 := PySem.W.mg_of X G a13
  have F14 := fun_mk (st := s_law_alike) l14 c14 k14
  have b14 := F14.binds (ps := ["_law_olds", "_law_news", "_law_old_cells", "_law_new_cells"]) fun _ _ _ _ _ _ us hl => match us, hl with | [_, _, _, _], _ => rfl
  have m14 := PySem.W.mg_of X G a14
  have F15 := fun_mk (st := s_law_come_to) l15 c15 k15
  have b15 := F15.binds (ps := ["_law_cells", "_law_values"]) fun _ _ _ _ _ _ us hl => match us, hl with | [_, _], _ => rfl
  have m15 := PySem.W.mg_of X G a15
  have F16 := fun_mk (st := s_law) l16 c16 k16
  have b16 := F16.binds (ps := ["_law_script"]) fun _ _ _ _ _ _ us hl => match us, hl with | [_], _ => rfl
  have m16 := PySem.W.mg_of X G a16
  have FM0 := fun_mk (st := s_put) lM0 cM0 kM0
  have bM0 := FM0.binds (ps := ["self", "cell"]) fun _ _ _ _ _ _ us hl => match us, hl with | [_, _], _ => rfl
  have FM1 := fun_mk (st := s_at) lM1 cM1 kM1
  have bM1 := FM1.binds (ps := ["self", "value"]) fun _ _ _ _ _ _ us hl => match us, hl with | [_, _], _ => rfl
  have FM2 := fun_mk (st := s_many) lM2 cM2 kM2
  have bM2 := FM2.binds (ps := ["self"]) fun _ _ _ _ _ _ us hl => match us, hl with | [_], _ => rfl
  have FM3 := fun_mk (st := s_told) lM3 cM3 kM3
  have bM3 := FM3.binds (ps := ["self"]) fun _ _ _ _ _ _ us hl => match us, hl with | [_], _ => rfl
  have FI := fun_mk (st := s_init) lI cI kI
  have bI := FI.binds (ps := ["self"]) fun _ _ _ _ _ _ us hl => match us, hl with | [_], _ => rfl
  obtain ⟨mf, md, u0, u1, u2, u3, v0, v1, v2, v3⟩ := mfmd fM0 fM1 fM2 fM3 (PySem.W.fnOf "put" "Cells.put" (defArgs s_put) (defBody s_put) (defScope s_put) .none kVM0 dcM0 pmM0 anM0 cdM0 ctM0) (PySem.W.fnOf "at" "Cells.at" (defArgs s_at) (defBody s_at) (defScope s_at) .none kVM1 dcM1 pmM1 anM1 cdM1 ctM1) (PySem.W.fnOf "many" "Cells.many" (defArgs s_many) (defBody s_many) (defScope s_many) .none kVM2 dcM2 pmM2 anM2 cdM2 ctM2) (PySem.W.fnOf "told" "Cells.told" (defArgs s_told) (defBody s_told) (defScope s_told) .none kVM3 dcM3 pmM3 anM3 cdM3 ctM3)
  have R0 : Fun K "put" "Cells.put" s_put (mf "put") (md "put") := by rw [u0, v0]; exact FM0
  have w0 : Meth K C "put" (mf "put") := by rw [u0]; exact ⟨aM0, jM0, kM0⟩
  have y100 : Binds K (md "put") ["self", "cell"] [] := by rw [v0]; exact bM0
  have R1 : Fun K "at" "Cells.at" s_at (mf "at") (md "at") := by rw [u1, v1]; exact FM1
  have w1 : Meth K C "at" (mf "at") := by rw [u1]; exact ⟨aM1, jM1, kM1⟩
  have y101 : Binds K (md "at") ["self", "value"] [] := by rw [v1]; exact bM1
  have R2 : Fun K "many" "Cells.many" s_many (mf "many") (md "many") := by rw [u2, v2]; exact FM2
  have w2 : Meth K C "many" (mf "many") := by rw [u2]; exact ⟨aM2, jM2, kM2⟩
  have y102 : Binds K (md "many") ["self"] [] := by rw [v2]; exact bM2
  have R3 : Fun K "told" "Cells.told" s_told (mf "told") (md "told") := by rw [u3, v3]; exact FM3
  have w3 : Meth K C "told" (mf "told") := by rw [u3]; exact ⟨aM3, jM3, kM3⟩
  have y103 : Binds K (md "told") ["self"] [] := by rw [v3]; exact bM3
  have RC : RCls K C mf md := { cl := ⟨pg, hd, po, sa⟩, ni := ni, m_put := w0, m_at := w1, m_many := w2, m_told := w3, b_put := y100, b_at := y101, b_many := y102, b_told := y103 }
  refine ⟨PySem.W.fnOf "law" "law" (defArgs s_law) (defBody s_law) (defScope s_law) .none kV16 dc16 pm16 an16 cd16 ct16, fun s v => .of_eq rfl, fun base _ _ => ?_⟩
  have GM_put := ok_put (P := l.prog) (w := w) (mg := mg) (base := base) R0 B RC
  have GM_at := ok_at (P := l.prog) (w := w) (mg := mg) (base := base) R1 RC
  have GM_many := ok_many (P := l.prog) (w := w) (mg := mg) (base := base) R2 B RC
  have GM_told := ok_told (P := l.prog) (w := w) (mg := mg) (base := base) R3 B RC
  have GM_init := ok_init (P := l.prog) (w := w) (mg := mg) (base := base) FI RC
  have G0 := ok_is_cell (P := l.prog) (w := w) (mg := mg) (base := base) F0 B
  have G1 := ok_values_in (P := l.prog) (w := w) (mg := mg) (base := base) F1 
  have G2 := ok_moved (P := l.prog) (w := w) (mg := mg) (base := base) F2 G0 b0 k0 m0
  have G3 := ok_moved_cell (P := l.prog) (w := w) (mg := mg) (base := base) F3 B G1 b1 k1 m1 G2 b2 k2 m2
  have G4 := ok_numbers_led_to (P := l.prog) (w := w) (mg := mg) (base := base) F4 B B2 RC GM_at G0 b0 k0 m0 G1 b1 k1 m1
  have G5 := ok_swept (P := l.prog) (w := w) (mg := mg) (base := base) F5 B RC ⟨mk, aI, jI, kc⟩ (PySem.W.mg_of X G aC) GM_init bI GM_put GM_at G4 b4 k4 m4 G2 b2 k2 m2 G3 b3 k3 m3
  have G6 := ok_law_cell_at (P := l.prog) (w := w) (mg := mg) (base := base) F6 B
  have G7 := ok_law_same (P := l.prog) (w := w) (mg := mg) (base := base) F7 B b7 k7 m7
  have G8 := ok_law_number (P := l.prog) (w := w) (mg := mg) (base := base) F8 
  have G9 := ok_law_drawn (P := l.prog) (w := w) (mg := mg) (base := base) F9 B G8 b8 k8 m8
  have G10 := ok_law_made (P := l.prog) (w := w) (mg := mg) (base := base) F10 B G9 b9 k9 m9
  have G11 := ok_law_parts (P := l.prog) (w := w) (mg := mg) (base := base) F11 B
  have G12 := ok_law_sort_alike (P := l.prog) (w := w) (mg := mg) (base := base) F12 B (G7 0) b7 k7 m7
  have G13 := ok_law_place (P := l.prog) (w := w) (mg := mg) (base := base) F13 B (G7 0) b7 k7 m7
  have G14 := ok_law_alike (P := l.prog) (w := w) (mg := mg) (base := base) F14 B (G7 0) b7 k7 m7 G13 b13 k13 m13 G12 b12 k12 m12 G11 b11 k11 m11
  have G15 := ok_law_come_to (P := l.prog) (w := w) (mg := mg) (base := base) F15 B G11 b11 k11 m11
  exact ok_law F16 B RC ⟨mk, aI, jI, kc⟩ (PySem.W.mg_of X G aC) GM_init bI GM_put GM_many GM_told G6 b6 k6 m6 (G7 0) b7 k7 m7 G9 b9 k9 m9 G10 b10 k10 m10 G14 b14 k14 m14 G15 b15 k15 m15 G5 b5 k5 m5
theorem walk {l : PySem.W.OpenLaw} {q : Program} {loose : List Str} {XP : (Str → Option Value) → Heap → Prop} {YP : World → Heap → Prop} {d : DefRec} {K : Params → PySem.W.Frag} (hn : l.most = some 63) (hdf : d.params.defaults = [])
    (hY : ∀ (w : World) (h : Heap), YP w h → (K w.params).In h)
    (F : ∀ (w : World) (mg : Str → Option Value) (fa : Addr) (h : Heap), (K w.params).In h → h.Ns mainGlobals mg → mg d.name = some (.ref fa) →
      ∃ fd : FuncData, (∀ (s : Shared) (u : Value), BindsTo s fd ⟨[u], []⟩ [("_law_script", u)]) ∧ ∀ base : Heap, (K w.params).In base → base.Ns mainGlobals mg → FnOk l.prog w (K w.params) mg base CX0 5 fa fd ["_law_script"] (spLaw (K w.params))) :
    PySem.W.WalkO q loose XP YP l.row.toRowW d [] (fun f vs => PySem.call f vs) :=
  L2.walk_of (n := 63) (k := 5) (x := "_law_script") (CX := fun _ => CX0) (sp := fun w => spLaw (K w.params)) hn (by decide) hdf ⟨rfl, by decide, by decide⟩ hY F (fun _ _ a ns hl _ hS => ⟨a, ns, rfl, hS, hl, fun _ => rfl⟩) fun _ _ _ _ _ z => z
end SW
open PySem PySem.W PyProof.Rows
set_option maxHeartbeats 0 in
theorem PySem.Challenge.cw_speakmill_k62_swept_holds : PySem.Challenge.rw_speakmill_k62_swept.Holds := by
  w_on; o_law; k_head; (case hw => w_witness2)
  k_fill
  refine SW.walk (l := PySem.Challenge.rw_speakmill_k62_swept) rfl rfl (fun w h Y => PySem.W.kIn_of Y) ?F
  case F =>
    intro w mg fa h KX G hmg
    refine' SW.all_mk KX G hmg ?a0 ?l0 ?c0 ?k0 ?a1 ?l1 ?c1 ?k1 ?a2 ?l2 ?c2 ?k2 ?a3 ?l3 ?c3 ?k3 ?a4 ?l4 ?c4 ?k4 ?a5 ?l5 ?c5 ?k5 ?a6 ?l6 ?c6 ?k6 ?a7 ?l7 ?c7 ?k7 ?a8 ?l8 ?c8 ?k8 ?a9 ?l9 ?c9 ?k9 ?a10 ?l10 ?c10 ?k10 ?a11 ?l11 ?c11 ?k11 ?a12 ?l12 ?c12 ?k12 ?a13 ?l13 ?c13 ?k13 ?a14 ?l14 ?c14 ?k14 ?a15 ?l15 ?c15 ?k15 ?a16 ?l16 ?c16 ?k16 ?aC ?aM0 ?lM0 ?cM0 ?kM0 ?jM0 ?aM1 ?lM1 ?cM1 ?kM1 ?jM1 ?aM2 ?lM2 ?cM2 ?kM2 ?jM2 ?aM3 ?lM3 ?cM3 ?kM3 ?jM3 ?aI ?lI ?cI ?kI ?jI ?pg ?hd ?po ?sa ?mk ?kc ?ni ?z_len ?z_list ?z_range ?z_isinstance ?z_str ?z_tuple ?z_int ?z_bool ?z_all ?z_sorted
    (case a0 => k_is)
    (case l0 => k_is)
    (case c0 => k_is)
    (case k0 => k_is)
    (case a1 => k_is)
    (case l1 => k_is)
    (case c1 => k_is)
    (case k1 => k_is)
    (case a2 => k_is)
    (case l2 => k_is)
    (case c2 => k_is)
    (case k2 => k_is)
    (case a3 => k_is)
    (case l3 => k_is)
    (case c3 => k_is)
    (case k3 => k_is)
    (case a4 => k_is)
    (case l4 => k_is)
    (case c4 => k_is)
    (case k4 => k_is)
    (case a5 => k_is)
    (case l5 => k_is)
    (case c5 => k_is)
    (case k5 => k_is)
    (case a6 => k_is)
    (case l6 => k_is)
    (case c6 => k_is)
    (case k6 => k_is)
    (case a7 => k_is)
    (case l7 => k_is)
    (case c7 => k_is)
    (case k7 => k_is)
    (case a8 => k_is)
    (case l8 => k_is)
    (case c8 => k_is)
    (case k8 => k_is)
    (case a9 => k_is)
    (case l9 => k_is)
    (case c9 => k_is)
    (case k9 => k_is)
    (case a10 => k_is)
    (case l10 => k_is)
    (case c10 => k_is)
    (case k10 => k_is)
    (case a11 => k_is)
    (case l11 => k_is)
    (case c11 => k_is)
    (case k11 => k_is)
    (case a12 => k_is)
    (case l12 => k_is)
    (case c12 => k_is)
    (case k12 => k_is)
    (case a13 => k_is)
    (case l13 => k_is)
    (case c13 => k_is)
    (case k13 => k_is)
    (case a14 => k_is)
    (case l14 => k_is)
    (case c14 => k_is)
    (case k14 => k_is)
    (case a15 => k_is)
    (case l15 => k_is)
    (case c15 => k_is)
    (case k15 => k_is)
    (case a16 => k_is)
    (case l16 => k_is)
    (case c16 => k_is)
    (case k16 => k_is)
    (case aC => k_is)
    (case aM0 => k_is)
    (case lM0 => k_is)
    (case cM0 => k_is)
    (case kM0 => k_is)
    (case jM0 => k_is)
    (case aM1 => k_is)
    (case lM1 => k_is)
    (case cM1 => k_is)
    (case kM1 => k_is)
    (case jM1 => k_is)
    (case aM2 => k_is)
    (case lM2 => k_is)
    (case cM2 => k_is)
    (case kM2 => k_is)
    (case jM2 => k_is)
    (case aM3 => k_is)
    (case lM3 => k_is)
    (case cM3 => k_is)
    (case kM3 => k_is)
    (case jM3 => k_is)
    (case aI => k_is)
    (case lI => k_is)
    (case cI => k_is)
    (case kI => k_is)
    (case jI => k_is)
    (case pg => k_is)
    (case hd => k_is)
    (case po => k_is)
    (case sa => k_is)
    (case mk => k_is)
    (case kc => k_is)
    (case ni => k_is)
    (case z_len => k_is)
    (case z_list => k_is)
    (case z_range => k_is)
    (case z_isinstance => k_is)
    (case z_str => k_is)
    (case z_tuple => k_is)
    (case z_int => k_is)
    (case z_bool => k_is)
    (case z_all => k_is)
    (case z_sorted => k_is)
